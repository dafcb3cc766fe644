/- A row stays where it is when only new things come. | The example signatures of law 7: a []By that came in, the ring, what is signed (any signatures, spoilt ones too). | Sets and signatures laid by the program's writer: what is laid (items: fits, bytes), Lay, LaySigs. | quorum.Lay, quorum.LaySigs. | quorum.LaySigs. | The document's Lay. | What the readers take: signatures (models on lists), the document's TakeSigs. | quorum.TakeSigs. | What the readers take: a set (models on lists), the document's Take. | quorum.Take. | The document's SameSigs, of two rows that hold the same. | A drawn region in which an operation that only reads races with one that steps on: whichever goes first, one continuation. No program is named. | A []api.Sig that came in. | A set that came in (an api.Set: texts, a number). -/
import Derived.Lib.ConvBytes
import Derived.OwnWalk
import Derived.Laws.StructEq
import Derived.Test.YtiblkfkeifnpaaaGreatDoorZmq
import Derived.Test.YtiblkfkeifnpaaaGreatDoorZpk
import Derived.Test.YtiblkfkeifnpaaaGreatDoorZtr
set_option linter.all false
namespace Go.Proofs.YtiblkfkeifnpaaaGreatDoor
open Go Go.RowKit

theorem row_here {w w' : World} {e : TypeId} {size n : Nat} {v : Value} {xs : List Value} (h : Pk.Row w e size v n xs) (hb : Below w.heap.size w w') : Pk.Row w' e size v n xs := h.chg (chg0 (S := fun _ => False) hb) fun _ _ h => h
theorem choose_list {α : Type} [Inhabited α] {P : Nat → α → Prop} : ∀ n : Nat, (∀ i, i < n → ∃ x, P i x) → ∃ l : List α, l.length = n ∧ ∀ i, i < n → P i (l.getD i default)
  | 0, _ => ⟨[], rfl, fun i hi => by omega⟩
  | n + 1, h => by
    obtain ⟨l, hl, hP⟩ := choose_list n fun i hi => h i (by omega)
    obtain ⟨x, hx⟩ := h n (by omega)
    refine ⟨l ++ [x], by simp [hl], fun i hi => ?_⟩
    by_cases e : i = n
    · subst e
      simpa [List.getD, ← hl] using hx
    · have h1 : i < l.length := by omega
      have := hP i (by omega)
      simpa [List.getD, List.getElem?_append_left h1] using this
end Go.Proofs.YtiblkfkeifnpaaaGreatDoor

namespace Go.Proofs.YtiblkfkeifnpaaaGreatDoor
open Go Go.RowKit

def sgC (sg : List (ByteArray × ByteArray)) : List Value := sg.flatMap sigC
theorem sgC_snoc (sg : List (ByteArray × ByteArray)) (x : ByteArray × ByteArray) : sgC (sg ++ [x]) = sgC sg ++ sigC x := by simp [sgC]
theorem sgC_get : ∀ (sg : List (ByteArray × ByteArray)) (i : Nat), i < sg.length → (sgC sg)[i * 2]? = some (.string (sg.getD i default).1) ∧ (sgC sg)[i * 2 + 1]? = some (.string (sg.getD i default).2)
  | [], i, h => by simp at h
  | x :: sg, 0, _ => ⟨rfl, rfl⟩
  | x :: sg, i + 1, h => by
    have := sgC_get sg i (by simpa using h)
    have e : sgC (x :: sg) = .string x.1 :: .string x.2 :: sgC sg := rfl
    rw [e, show (i + 1) * 2 = i * 2 + 1 + 1 by omega]
    simpa using this
theorem info_sig : (Tryz.prog.info? 59).map (fun i => (i.zero, i.size, i.bytes)) = some (some (.agg #[.string ByteArray.empty, .string ByteArray.empty]), 2, 32) := by kernel_rfl
/-- A region told from a class that need not be its base. -/
theorem region_steadyC {P : Program} (B C : World → Prop) (R : World → World → Prop) {id : Nat} {Q : Exit → Act → World → Prop} {a : Act} {w : World} {l : List Oper} (hm : P.follows .mixedOrders = true) (hC : C w.drew)
    (h : anyS P .any l.toArray B R (Q .normal) l.length (Array.replicate l.length false) a C) : (Code.region id l.toArray true).wp P Q a w := by
  refine wp_region_any hm ?_
  have h2 := any_of_S (fun _ _ h => h) _ _ _ _ _ hC h
  simpa using h2
end Go.Proofs.YtiblkfkeifnpaaaGreatDoor

namespace Go.Proofs.YtiblkfkeifnpaaaGreatDoor
open Go Go.RowKit

/-- What a run of items leaves: spoilt where one doesn't fit; else all is there. -/
structure Laid (its : List (Bool × List UInt8)) (l : List UInt8) (bad : Bool) (l' : List UInt8) (bad' : Bool) : Prop where
  bad_eq : bad' = (bad || its.any fun x => !x.1)
  all : bad' = false → l' = l ++ its.flatMap fun x => x.2
  len : l'.length ≤ l.length + 70000 * its.length
theorem Laid.nil (l : List UInt8) (bad : Bool) : Laid [] l bad l bad := ⟨by simp, fun _ => by simp, by simp⟩
theorem Laid.lays {its : List (Bool × List UInt8)} {l l' : List UInt8} {bad bad' : Bool} (h : Laid its l bad l' bad') (ok : Bool) (s : List UInt8) (hs : ok = true → s.length ≤ 70000) : Laid (its ++ [(ok, s)]) l bad (Pk.lays ok s l' bad') (bad' || !ok) := by
  refine ⟨by rw [List.any_append, h.bad_eq]; simp [Bool.or_assoc], fun hf => ?_, ?_⟩
  · simp only [Bool.or_eq_false_iff, Bool.not_eq_false'] at hf
    rw [Pk.lays, hf.1, hf.2, h.all hf.1]
    simp
  · have := h.len
    rw [Pk.lays, List.length_append]
    cases ok with
    | false => simp; omega
    | true =>
      have h2 := hs rfl
      cases bad' <;> simp <;> omega
theorem Laid.laysX {its : List (Bool × List UInt8)} {l l' : List UInt8} {bad bad' : Bool} (h : Laid its l bad l' bad') (ok : Bool) (s : List UInt8) (hs : ok = true → s.length ≤ 70000) : Laid (its ++ [(ok, s)]) l bad (Pk.laysX ok s l') (bad' || !ok) := by
  refine ⟨by rw [List.any_append, h.bad_eq]; simp [Bool.or_assoc], fun hf => ?_, ?_⟩
  · simp only [Bool.or_eq_false_iff, Bool.not_eq_false'] at hf
    rw [Pk.laysX, hf.2, h.all hf.1]
    simp
  · have := h.len
    rw [Pk.laysX, List.length_append]
    cases ok with
    | false => simp; omega
    | true =>
      have h2 := hs rfl
      simp; omega
theorem Laid.trans {a b : List (Bool × List UInt8)} {l l1 l2 : List UInt8} {bad bad1 bad2 : Bool} (h : Laid a l bad l1 bad1) (k : Laid b l1 bad1 l2 bad2) : Laid (a ++ b) l bad l2 bad2 := by
  refine ⟨by rw [k.bad_eq, h.bad_eq, List.any_append, Bool.or_assoc], fun hf => ?_, ?_⟩
  · have hf1 : bad1 = false := by
      have := k.bad_eq
      rw [hf] at this
      cases bad1 with
      | false => rfl
      | true => simp at this
    rw [k.all hf, h.all hf1]
    simp
  · have h1 := h.len
    have h2 := k.len
    rw [List.length_append]; omega
/-- What calls of a writer leave. -/
structure Lz (w : World) (b : Nat) (t : TypeId) (v : Value) (its : List (Bool × List UInt8)) (l : List UInt8) (bad : Bool) (w' : World) : Prop where
  out : ∃ v' l' bad', Pk.WAt w' b t v' l' bad' ∧ Pk.Chg (fun k => k = b ∨ v.ownBlock = some k) w w' ∧ (∀ k, v'.ownBlock = some k → v.ownBlock = some k ∨ w.heap.size ≤ k) ∧ Laid its l bad l' bad'
theorem Lz.nil {w w1 : World} {b : Nat} {t : TypeId} {v : Value} {l : List UInt8} {bad : Bool} (h : Pk.WAt w b t v l bad) (hb : Below w.heap.size w w1) (hlt : b < w.heap.size) (hv : ∀ k, v.ownBlock = some k → k < w.heap.size) : Lz w b t v [] l bad w1 :=
  ⟨v, l, bad, h.chg (S := fun k => w.heap.size ≤ k) (Pk.Chg.of_below hb) (by omega) (fun k hk => by have := hv k hk; omega), (Pk.Chg.of_below hb).mono fun i hi e => absurd e (by omega), fun k hk => .inl hk, Laid.nil _ _⟩
theorem Lz.step {w w1 w2 : World} {b : Nat} {t : TypeId} {v v1 : Value} {l l1 l2 : List UInt8} {bad bad1 bad2 : Bool} {its its2 : List (Bool × List UInt8)} (_hA : Pk.WAt w1 b t v1 l1 bad1) (c1 : Pk.Chg (fun k => k = b ∨ v.ownBlock = some k) w w1) (p1 : ∀ k, v1.ownBlock = some k → v.ownBlock = some k ∨ w.heap.size ≤ k)
    (hn : Pk.WNext w1 b t v1 l2 bad2 w2) (hl : Laid its2 l bad l2 bad2) (_ : its = its2) : Lz w b t v its l bad w2 := by
  subst its2
  obtain ⟨v', h1, h2, h3⟩ := (Pk.WNext.trans _hA c1 p1 hn).out
  exact ⟨v', l2, bad2, h1, h2, h3, hl⟩
/-- Nothing below B is touched. -/
theorem Lz.below {W0 w w' : World} {b : Nat} {t : TypeId} {v : Value} {its : List (Bool × List UInt8)} {l : List UInt8} {bad : Bool} (h : Lz w b t v its l bad w') (hB : Below W0.heap.size W0 w) (hb : W0.heap.size ≤ b) (hv : ∀ k, v.ownBlock = some k → W0.heap.size ≤ k) : Below W0.heap.size W0 w' := by
  obtain ⟨_, _, _, _, hc, _⟩ := h.out
  exact hB.trans (hc.below hB.size fun i hi => by
    rcases hi with rfl | hi
    · exact hb
    · exact hv i hi)
def numI (n : Int) : Bool × List UInt8 := (Pk.fits n 1, Pk.beN n.toNat 1)
def idI (s : ByteArray) : Bool × List UInt8 := (decide (s.size = 32), s.data.toList)
def txI (s : ByteArray) : Bool × List UInt8 := (decide (s.size ≤ 65535), Pk.textL s)
/-- A set's. -/
def setIs (ids : List ByteArray) (n : Int) : List (Bool × List UInt8) := if chkB ids n then numI ids.length :: (ids.map idI ++ [numI n]) else [numI (-1)]
/-- Signatures'. -/
def sigIs (sg : List (ByteArray × ByteArray)) : List (Bool × List UInt8) := numI sg.length :: sg.flatMap fun x => [idI x.1, txI x.2]
theorem numI_le (n : Int) : (numI n).2.length ≤ 70000 := by
  show (Pk.beN n.toNat 1).length ≤ 70000
  have : (Pk.beN n.toNat 1).length = 1 := by simp [Pk.beN]
  omega
theorem idI_le (s : ByteArray) (h : (idI s).1 = true) : (idI s).2.length ≤ 70000 := by
  have h1 : s.size = 32 := by simpa [idI] using h
  show s.data.toList.length ≤ _
  rw [data_len]; omega
theorem txI_le (s : ByteArray) (h : (txI s).1 = true) : (txI s).2.length ≤ 70000 := by
  have h1 : s.size ≤ 65535 := by simpa [txI] using h
  show (Pk.beN s.size 2 ++ s.data.toList).length ≤ _
  have : (Pk.beN s.size 2).length = 2 := by simp [Pk.beN]
  rw [List.length_append, data_len]; omega
end Go.Proofs.YtiblkfkeifnpaaaGreatDoor

namespace Go.Proofs.YtiblkfkeifnpaaaGreatDoor
open Go Go.RowKit

theorem wat_apart {w : World} {b bS : Nat} {t tS : TypeId} {v : Value} {l : List UInt8} {bad : Bool} {cs : List Value} (h : Pk.WAt w b t v l bad) (hS : Blk w bS cs tS) (ht : tS ≠ 5) : v.ownBlock ≠ some bS := Pk.Row.apart h.own hS ht
theorem wnext_blk {w w' : World} {b bS : Nat} {t tS : TypeId} {v : Value} {l l2 : List UInt8} {bad bad2 : Bool} {cs : List Value} (h : Pk.WAt w b t v l bad) (hn : Pk.WNext w b t v l2 bad2 w') (hS : Blk w bS cs tS) (ht : tS ≠ 5) (hne : bS ≠ b) : Blk w' bS cs tS := by
  obtain ⟨_, _, hc, _⟩ := hn.out
  exact hc.blk hS fun e => by
    rcases e with e | e
    · exact hne e
    · exact wat_apart h hS ht e
theorem idI_take (ids : List ByteArray) (i : Nat) (h : i < ids.length) : (ids.take (i + 1)).map idI = (ids.take i).map idI ++ [idI (ids.getD i ByteArray.empty)] := by
  rw [List.take_succ_eq_append_getElem h, List.map_append]
  simp [List.getD, h]
set_option maxHeartbeats 3200000 in
set_option maxRecDepth 100000 in
theorem lay_any (b : Nat) (v : Value) (l : List UInt8) (bad : Bool) (sv : Value) (ids : List ByteArray) (n : Int) (W0 w : World) (hW : Pk.WAt w b 68 v l bad) (hp : PartsAt W0 sv ids) (hB : Below W0.heap.size W0 w) (hb : W0.heap.size ≤ b) (hv : ∀ k, v.ownBlock = some k → W0.heap.size ≤ k) (hm : ids.length ≤ maxLen) (hl : l.length ≤ 1000000000) :
    Calls Tryz.prog 119 #[.pointer (some ⟨b, 0, none⟩), .agg #[sv, .int .i64 n]] w fun e w' => e = .returned (.tuple #[]) ∧ Lz w b 68 v (setIs ids n) l bad w' := by
  obtain ⟨W1, hW1⟩ : ∃ W1, w.alloc (.cells #[sv, .int .i64 n] 24) = W1 := ⟨_, rfl⟩
  have hb1 : Below w.heap.size w W1 := by rw [← hW1]; exact bel_alloc _ _
  have hS1 : Box (Blk W1 w.heap.size [sv, .int .i64 n] 24) := ⟨by rw [← hW1]; exact Blk.new w _ _⟩
  have hlt : b < w.heap.size := Pk.Blk.lt hW.blk
  have hvl : ∀ k, v.ownBlock = some k → k < w.heap.size := fun k hk => Pk.Row.lt hW.own k hk
  have hne : Box (w.heap.size ≠ b) := ⟨by omega⟩
  have hz1 : Box (Lz w b 68 v [] l bad W1) := ⟨Lz.nil hW hb1 hlt hvl⟩
  have hbel : Box (∀ its w', Lz w b 68 v its l bad w' → Below W0.heap.size W0 w') := ⟨fun its w' h => h.below hB hb hv⟩
  have hsh : ∃ a c, sv = .slice a ids.length c := by
    obtain ⟨a, c, rfl, _⟩ := hp.ex
    exact ⟨_, _, rfl⟩
  obtain ⟨a, c, rfl⟩ := hsh
  obtain ⟨L, hL⟩ : ∃ L, ids.length = L := ⟨_, rfl⟩
  have hck := check_any _ ids n W1 (hp.here (hbel.out _ _ hz1.out)) hm
  rw [hL] at hp hS1 hck hW1 ⊢
  obtain ⟨bS, hbS⟩ : ∃ x, w.heap.size = x := ⟨_, rfl⟩
  rw [hbS] at hS1 hne
  have hlB := Box.mk hl
  have hpB := Box.mk hp
  have hLB := Box.mk hL
  have hWB := Box.mk hW
  have hvB := Box.mk hvl
  have hltB := Box.mk hlt
  have q0 := hS1.out.cell 0
  have q1 := hS1.out.cell 1
  simp only [List.getElem?_cons_zero, List.getElem?_cons_succ] at q0 q1
  clear hp hB hb hv hvl hW hL hl hlt
  go_enter Tryz.func119, Tryz.ntmps119
  go_wp2_with fail
  refine hck.mono ?_
  clear hck q0 q1
  rintro e w2 ⟨rfl, hb2⟩
  have hS2 := Box.mk (hS1.out.below hb2 hS1.out.lt)
  have hB12 : Below w.heap.size w w2 := mono_bel hb1 hb2 (Nat.le_refl _)
  have hW2 : Pk.WAt w2 b 68 v l bad := hWB.out.chg (S := fun k => w.heap.size ≤ k) (Pk.Chg.of_below hB12) (by have := hltB.out; omega) (fun k hk => by have := hvB.out k hk; omega)
  have c2 : Pk.Chg (fun k => k = b ∨ v.ownBlock = some k) w w2 := (Pk.Chg.of_below hB12).mono fun i hi e => absurd e (by omega)
  have p2 : ∀ k, v.ownBlock = some k → v.ownBlock = some k ∨ w.heap.size ≤ k := fun k hk => .inl hk
  clear hW1 hb1 hb2 hS1 hz1 hbS hB12
  cases hg : chkB ids n with
  | false =>
    have hce : chkE ids n = 1 := by rw [chkE, hg]; rfl
    have hF := Pk.byte_any b v l bad (-1) w2 hW2 (by have := hlB.out; omega)
    have hz := Box.mk fun w3 (h : Pk.WNext w2 b 68 v (Pk.lays (Pk.fits (-1) 1) (Pk.beN (-1 : Int).toNat 1) l bad) (bad || !Pk.fits (-1) 1) w3) => Lz.step hW2 c2 p2 h (Laid.lays (Laid.nil l bad) (Pk.fits (-1) 1) (Pk.beN (-1 : Int).toNat 1) fun _ => numI_le (-1)) (show [numI (-1)] = _ from rfl)
    have hits : Box (setIs ids n = [numI (-1)]) := ⟨by rw [setIs, hg]; rfl⟩
    rw [hce]
    clear hce hg hW2 c2 p2
    go_wp2_with fail
    refine hF.mono ?_
    clear hF
    rintro e w3 ⟨rfl, h3⟩
    have hz3 := Box.mk (hz.out w3 h3)
    clear h3 hz
    go_wp2_with fail
    go_returns
    exact ⟨rfl, by rw [hits.out]; exact hz3.out⟩
  | true =>
    have hce : chkE ids n = 0 := by rw [chkE, hg]; rfl
    have hF := Pk.byte_any b v l bad (L : Int) w2 hW2 (by have := hlB.out; omega)
    have hz := Box.mk fun w3 (h : Pk.WNext w2 b 68 v (Pk.lays (Pk.fits (L : Int) 1) (Pk.beN (L : Int).toNat 1) l bad) (bad || !Pk.fits (L : Int) 1) w3) => (⟨Lz.step hW2 c2 p2 h (Laid.lays (Laid.nil l bad) (Pk.fits (L : Int) 1) (Pk.beN (L : Int).toNat 1) fun _ => numI_le L) (show [numI L] = _ from rfl), wnext_blk hW2 h hS2.out (by decide) hne.out⟩ : Lz w b 68 v [numI L] l bad w3 ∧ Blk w3 bS [.slice a L c, .int .i64 n] 24)
    have hits : Box (setIs ids n = numI (L : Int) :: (ids.map idI ++ [numI n])) := ⟨by rw [setIs, hg, hLB.out]; rfl⟩
    have q0 := hS2.out.cell 0
    simp only [List.getElem?_cons_zero] at q0
    have hL16 : L ≤ 16 := by
      have := (chkB_iff ids n).1 hg
      rw [hLB.out] at this
      exact this.2.2.1
    rw [hce]
    clear hce hg hW2 c2 p2
    go_wp2_with fail
    refine hF.mono ?_
    clear hF q0
    rintro e w3 ⟨rfl, h3⟩
    have hz3 := hz.out w3 h3
    have hA0 : Box (Lz w b 68 v (numI L :: (ids.take 0).map idI) l bad w3 ∧ Blk w3 bS [.slice a L c, .int .i64 n] 24) := ⟨by simpa using hz3⟩
    have q0 := hz3.2.cell 0
    simp only [List.getElem?_cons_zero] at q0
    clear h3 hz hz3 hS2
    go_wp2_with fail
    go_loopw [5, 19] (fun _ q wr => ∃ i : Nat, i ≤ L ∧ q = .int .i64 (i : Int) ∧ Box (Lz w b 68 v (numI L :: (ids.take i).map idI) l bad wr ∧ Blk wr bS [.slice a L c, .int .i64 n] 24)) (fun _ q _ => L - (intOf q).toNat)
    case atStart => exact ⟨0, by omega, rfl, hA0⟩
    case round =>
      clear hA0 q0
      obtain ⟨i, hi, rfl, hA⟩ := hrel
      obtain ⟨v', l', bad', hW', hc', hp', hl'⟩ := hA.out.1.out
      have hlen := hl'.len
      have h17 : (numI L :: (ids.take i).map idI).length ≤ 17 := by
        simp only [List.length_cons, List.length_map, List.length_take]
        omega
      have hll : l'.length ≤ 35184372088000 := Nat.le_trans hlen (Nat.le_trans (Nat.add_le_add hlB.out (Nat.mul_le_mul_left 70000 h17)) (by decide))
      by_cases hlt : i < L
      · have hpr := hpB.out.here (hbel.out _ _ hA.out.1)
        obtain ⟨a9, c9, e9, hh9⟩ := hpr.ex
        rw [hLB.out] at e9 hh9
        cases e9
        obtain ⟨blk, off, rfl, _, hcell⟩ := hh9 (by omega)
        have hci := hcell i hlt
        obtain ⟨id, hid⟩ : ∃ x, ids.getD i ByteArray.empty = x := ⟨_, rfl⟩
        rw [hid] at hci
        have hF := Pk.hash_any b v' l' bad' id wr hW' hll
        have htk := idI_take ids i (by rw [hLB.out]; exact hlt)
        rw [hid] at htk
        have hz := Box.mk fun w3 (h : Pk.WNext wr b 68 v' (Pk.lays (decide (id.size = 32)) id.data.toList l' bad') (bad' || !decide (id.size = 32)) w3) => (⟨Lz.step hW' hc' hp' h (Laid.lays hl' (decide (id.size = 32)) id.data.toList fun h => idI_le id h) (show numI L :: (ids.take (i + 1)).map idI = _ by rw [htk]; rfl), wnext_blk hW' h hA.out.2 (by decide) hne.out⟩ : Lz w b 68 v (numI L :: (ids.take (i + 1)).map idI) l bad w3 ∧ Blk w3 bS [.slice (some ⟨blk, off, none⟩) L c, .int .i64 n] 24)
        have hii : (i : Int) < (L : Int) := by omega
        clear hh9 hcell hpr hid htk hW' hc' hp' hl' hlen h17 hll hA
        go_wp2_with fail
        refine hF.mono ?_
        clear hF hci
        rintro e w4 ⟨rfl, h4⟩
        have hz4 := Box.mk (hz.out w4 h4)
        clear h4 hz
        go_wp2_with fail
        exact ⟨⟨i + 1, by omega, by go_num, hz4⟩, by simp [intOf]; omega⟩
      · obtain rfl : i = L := by omega
        have hF := Pk.byte_any b v' l' bad' n wr hW' (Nat.le_trans hll (by decide))
        have hall : ids.take i = ids := by rw [← hLB.out, List.take_length]
        have hz := Box.mk fun w3 (h : Pk.WNext wr b 68 v' (Pk.lays (Pk.fits n 1) (Pk.beN n.toNat 1) l' bad') (bad' || !Pk.fits n 1) w3) => Lz.step hW' hc' hp' h (Laid.lays hl' (Pk.fits n 1) (Pk.beN n.toNat 1) fun _ => numI_le n) (show setIs ids n = _ by rw [hits.out, hall]; rfl)
        have q1 := hA.out.2.cell 1
        simp only [List.getElem?_cons_succ, List.getElem?_cons_zero] at q1
        clear hall hW' hc' hp' hl' hlen h17 hll hA hi hlt
        go_wp2_with fail
        refine hF.mono ?_
        clear hF q1
        rintro e w4 ⟨rfl, h4⟩
        have hz4 := Box.mk (hz.out w4 h4)
        clear h4 hz
        go_wp2_with fail
        go_returns
        exact ⟨rfl, hz4.out⟩
end Go.Proofs.YtiblkfkeifnpaaaGreatDoor

namespace Go.Proofs.YtiblkfkeifnpaaaGreatDoor
open Go Go.RowKit

theorem Lz.here {w w1 w2 : World} {b : Nat} {t : TypeId} {v : Value} {its : List (Bool × List UInt8)} {l : List UInt8} {bad : Bool} (h : Lz w b t v its l bad w1) (hb : Below w1.heap.size w1 w2) : Lz w b t v its l bad w2 := by
  obtain ⟨v', l', bad', hW, hc, hp, hl⟩ := h.out
  have hlt : b < w1.heap.size := Pk.Blk.lt hW.blk
  refine ⟨v', l', bad', hW.chg (S := fun k => w1.heap.size ≤ k) (Pk.Chg.of_below hb) (by omega) (fun k hk => by have := Pk.Row.lt hW.own k hk; omega), hc.trans (Pk.Chg.of_below hb) fun i hi e => ?_, hp, hl⟩
  have := hc.size
  omega
theorem sigI_take (sg : List (ByteArray × ByteArray)) (i : Nat) (h : i < sg.length) : (sg.take (i + 1)).flatMap (fun x => [idI x.1, txI x.2]) = (sg.take i).flatMap (fun x => [idI x.1, txI x.2]) ++ [idI (sg.getD i default).1] ++ [txI (sg.getD i default).2] := by
  rw [List.take_succ_eq_append_getElem h, List.flatMap_append]
  simp [List.getD, h]
theorem sigI_len (sg : List (ByteArray × ByteArray)) : (sg.flatMap (fun x => [idI x.1, txI x.2])).length = 2 * sg.length := by
  induction sg with
  | nil => rfl
  | cons x sg ih => rw [List.flatMap_cons, List.length_append, ih]; simp; omega
theorem SigsAt.at {w : World} {a : Option Addr} {n c : Nat} {sg : List (ByteArray × ByteArray)} (h : SigsAt w (.slice a n c) sg) (i : Nat) (hi : i < sg.length) : ∃ blk off, a = some ⟨blk, off, none⟩ ∧ w.cell? ⟨blk, off + i * 2, none⟩ = some (.string (sg.getD i default).1) ∧ w.cell? ⟨blk, off + i * 2 + 1, none⟩ = some (.string (sg.getD i default).2) := by
  obtain ⟨a2, c2, e, hh⟩ := h.ex
  cases e
  obtain ⟨blk, off, e2, _, hc⟩ := hh (by omega)
  exact ⟨blk, off, e2, hc i hi⟩
set_option maxHeartbeats 3200000 in
set_option maxRecDepth 100000 in
theorem laysigs_any (b : Nat) (v : Value) (l : List UInt8) (bad : Bool) (a : Option Addr) (L c : Nat) (sg : List (ByteArray × ByteArray)) (W0 w : World) (hW : Pk.WAt w b 68 v l bad) (hp : SigsAt W0 (.slice a L c) sg) (hL : sg.length = L) (hB : Below W0.heap.size W0 w) (hb : W0.heap.size ≤ b) (hv : ∀ k, v.ownBlock = some k → W0.heap.size ≤ k) (hm : L ≤ 300) (hl : l.length ≤ 1000000000) :
    Calls Tryz.prog 61 #[.pointer (some ⟨b, 0, none⟩), .slice a L c] w fun e w' => e = .returned (.tuple #[]) ∧ Lz w b 68 v (sigIs sg) l bad w' := by
  have hbel : Box (∀ its w', Lz w b 68 v its l bad w' → Below W0.heap.size W0 w') := ⟨fun its w' h => h.below hB hb hv⟩
  have hF := Pk.byte_any b v l bad (L : Int) w hW (by omega)
  have hz := Box.mk fun w3 (h : Pk.WNext w b 68 v (Pk.lays (Pk.fits (L : Int) 1) (Pk.beN (L : Int).toNat 1) l bad) (bad || !Pk.fits (L : Int) 1) w3) => Lz.step hW (Pk.Chg.refl _ w) (fun k hk => .inl hk) h (Laid.lays (Laid.nil l bad) (Pk.fits (L : Int) 1) (Pk.beN (L : Int).toNat 1) fun _ => numI_le L) (show [numI L] = _ from rfl)
  have hlB := Box.mk hl
  have hpB := Box.mk hp
  have hLB := Box.mk hL
  have hltB : Box (b < w.heap.size) := ⟨Pk.Blk.lt hW.blk⟩
  clear hp hB hb hv hW hL hl
  go_enter Tryz.func61, Tryz.ntmps61
  go_wp2_with fail
  refine hF.mono ?_
  clear hF
  rintro e w3 ⟨rfl, h3⟩
  have hA0 : Box (Lz w b 68 v (numI L :: (sg.take 0).flatMap fun x => [idI x.1, txI x.2]) l bad w3) := ⟨hz.out w3 h3⟩
  clear h3 hz
  go_wp2_with fail
  go_loopw [5, 12] (fun _ q wr => ∃ i : Nat, i ≤ L ∧ q = .int .i64 (i : Int) ∧ Box (Lz w b 68 v (numI L :: (sg.take i).flatMap fun x => [idI x.1, txI x.2]) l bad wr)) (fun _ q _ => L - (intOf q).toNat)
  case atStart => exact ⟨0, by omega, rfl, hA0⟩
  case round =>
    clear hA0
    obtain ⟨i, hi, rfl, hA⟩ := hrel
    by_cases hlt : i < L
    · have hig : i < sg.length := by rw [hLB.out]; exact hlt
      obtain ⟨blk, off, rfl, k0, k1⟩ := (hpB.out.here (hbel.out _ _ hA.out)).at i hig
      have htk := sigI_take sg i hig
      obtain ⟨x, hx⟩ : ∃ x, sg.getD i default = x := ⟨_, rfl⟩
      rw [hx] at k0 k1 htk
      obtain ⟨x1, x2⟩ := x
      simp only at k0 k1 htk
      obtain ⟨Wa, hWa⟩ : ∃ W, wr.alloc (.cells #[.string x1, .string x2] 59) = W := ⟨_, rfl⟩
      have hba : Below wr.heap.size wr Wa := by rw [← hWa]; exact bel_alloc _ _
      have hQ : Blk Wa wr.heap.size [.string x1, .string x2] 59 := by rw [← hWa]; exact Blk.new wr _ _
      obtain ⟨v', l', bad', hW', hc', hp', hl'⟩ := (hA.out.here hba).out
      have hne : Box (wr.heap.size ≠ b) := ⟨by
        obtain ⟨_, _, _, hW0, _⟩ := hA.out.out
        have := Pk.Blk.lt hW0.blk
        omega⟩
      obtain ⟨bq, hbq⟩ : ∃ x, wr.heap.size = x := ⟨_, rfl⟩
      rw [hbq] at hQ hne
      obtain ⟨its, hits⟩ : ∃ s, numI (L : Int) :: (sg.take i).flatMap (fun x => [idI x.1, txI x.2]) = s := ⟨_, rfl⟩
      have hil : its.length ≤ 601 := by
        rw [← hits, List.length_cons, sigI_len, List.length_take]
        omega
      have hnx : Box (numI (L : Int) :: (sg.take (i + 1)).flatMap (fun x => [idI x.1, txI x.2]) = (its ++ [idI x1]) ++ [txI x2]) := ⟨by rw [htk, ← hits]; rfl⟩
      rw [hits] at hl'
      have hlen := hl'.len
      have hll : l'.length ≤ 35184372088000 := Nat.le_trans hlen (Nat.le_trans (Nat.add_le_add hlB.out (Nat.mul_le_mul_left 70000 hil)) (by decide))
      have hF := Pk.hash_any b v' l' bad' x1 Wa hW' hll
      have hz := Box.mk fun w3 (h : Pk.WNext Wa b 68 v' (Pk.lays (decide (x1.size = 32)) x1.data.toList l' bad') (bad' || !decide (x1.size = 32)) w3) => (⟨Lz.step hW' hc' hp' h (Laid.lays hl' (decide (x1.size = 32)) x1.data.toList fun h => idI_le x1 h) (show its ++ [idI x1] = _ from rfl), wnext_blk hW' h hQ (by decide) hne.out⟩ : Lz w b 68 v (its ++ [idI x1]) l bad w3 ∧ Blk w3 bq [.string x1, .string x2] 59)
      have q0 := hQ.cell 0
      simp only [List.getElem?_cons_zero] at q0
      have hii : (i : Int) < (L : Int) := by omega
      have hilB := Box.mk hil
      clear hW' hc' hp' hl' hlen hll hA hba hQ hits htk hx hig hil
      go_wp2_with fail
      refine hF.mono ?_
      clear hF k0 k1 q0 hWa hbq
      rintro e w4 ⟨rfl, h4⟩
      obtain ⟨hz4, hQ4⟩ := hz.out w4 h4
      obtain ⟨v2, l2, bad2, hW2, hc2, hp2, hl2⟩ := hz4.out
      have hlen := hl2.len
      have hil2 : (its ++ [idI x1]).length ≤ 602 := by
        rw [List.length_append]
        exact Nat.add_le_add hilB.out (Nat.le_refl 1)
      have hll : l2.length ≤ 35184372088000 := Nat.le_trans hlen (Nat.le_trans (Nat.add_le_add hlB.out (Nat.mul_le_mul_left 70000 hil2)) (by decide))
      have hF := Pk.text_any b v2 l2 bad2 x2 w4 hW2 hll
      have hz2 := Box.mk fun w3 (h : Pk.WNext w4 b 68 v2 (Pk.lays (decide (x2.size ≤ 65535)) (Pk.textL x2) l2 bad2) (bad2 || !decide (x2.size ≤ 65535)) w3) => Lz.step hW2 hc2 hp2 h (Laid.lays hl2 (decide (x2.size ≤ 65535)) (Pk.textL x2) fun h => txI_le x2 h) (show (its ++ [idI x1]) ++ [txI x2] = _ from rfl)
      have q1 := hQ4.cell 1
      simp only [List.getElem?_cons_succ, List.getElem?_cons_zero] at q1
      clear hW2 hc2 hp2 hl2 hlen hll hil2 hz hz4 hQ4 h4
      go_wp2_with fail
      refine hF.mono ?_
      clear hF q1
      rintro e w5 ⟨rfl, h5⟩
      have hz5 := Box.mk (hz2.out w5 h5)
      rw [← hnx.out] at hz5
      clear h5 hz2
      go_wp2_with fail
      exact ⟨⟨i + 1, by omega, by go_num, hz5⟩, by simp [intOf]; omega⟩
    · obtain rfl : i = L := by omega
      have hall : sg.take i = sg := by rw [← hLB.out, List.take_length]
      have hfin : Box (Lz w b 68 v (sigIs sg) l bad wr) := ⟨by
        have := hA.out
        rw [hall] at this
        rw [sigIs, hLB.out]
        exact this⟩
      clear hA hall
      go_wp2_with fail
      go_returns
      exact ⟨rfl, hfin.out⟩
end Go.Proofs.YtiblkfkeifnpaaaGreatDoor

namespace Go.Proofs.YtiblkfkeifnpaaaGreatDoor
open Go Go.RowKit

set_option maxHeartbeats 3200000 in
set_option maxRecDepth 100000 in
theorem xlay_any (b : Nat) (v : Value) (l : List UInt8) (bad : Bool) (sv : Value) (ids : List ByteArray) (n : Int) (W0 w : World) (hW : Pk.WAt w b 75 v l bad) (hp : PartsAt W0 sv ids) (hB : Below W0.heap.size W0 w) (hb : W0.heap.size ≤ b) (hv : ∀ k, v.ownBlock = some k → W0.heap.size ≤ k) (hm : ids.length ≤ maxLen) (hl : l.length ≤ 1000000000) (hn : -9223372036854775808 ≤ n ∧ n ≤ 9223372036854775807) :
    Calls Tryz.prog 34 #[.pointer (some ⟨b, 0, none⟩), .agg #[sv, .int .i64 n]] w fun e w' => e = .returned (.tuple #[]) ∧ Lz w b 75 v (setIs ids n) l bad w' := by
  obtain ⟨W1, hW1⟩ : ∃ W1, w.alloc (.cells #[sv, .int .i64 n] 24) = W1 := ⟨_, rfl⟩
  have hb1 : Below w.heap.size w W1 := by rw [← hW1]; exact bel_alloc _ _
  have hS1 : Box (Blk W1 w.heap.size [sv, .int .i64 n] 24) := ⟨by rw [← hW1]; exact Blk.new w _ _⟩
  have hlt : b < w.heap.size := Pk.Blk.lt hW.blk
  have hvl : ∀ k, v.ownBlock = some k → k < w.heap.size := fun k hk => Pk.Row.lt hW.own k hk
  have hne : Box (w.heap.size ≠ b) := ⟨by omega⟩
  have hz1 : Box (Lz w b 75 v [] l bad W1) := ⟨Lz.nil hW hb1 hlt hvl⟩
  have hbel : Box (∀ its w', Lz w b 75 v its l bad w' → Below W0.heap.size W0 w') := ⟨fun its w' h => h.below hB hb hv⟩
  have hsh : ∃ a c, sv = .slice a ids.length c := by
    obtain ⟨a, c, rfl, _⟩ := hp.ex
    exact ⟨_, _, rfl⟩
  obtain ⟨a, c, rfl⟩ := hsh
  obtain ⟨L, hL⟩ : ∃ L, ids.length = L := ⟨_, rfl⟩
  have hck := rcheck_any _ ids n W1 (hp.here (hbel.out _ _ hz1.out)) hm
  rw [hL] at hp hS1 hck hW1 ⊢
  obtain ⟨bS, hbS⟩ : ∃ x, w.heap.size = x := ⟨_, rfl⟩
  rw [hbS] at hS1 hne
  have hlB := Box.mk hl
  have hpB := Box.mk hp
  have hLB := Box.mk hL
  have hWB := Box.mk hW
  have hvB := Box.mk hvl
  have hltB := Box.mk hlt
  have q0 := hS1.out.cell 0
  have q1 := hS1.out.cell 1
  simp only [List.getElem?_cons_zero, List.getElem?_cons_succ] at q0 q1
  clear hp hB hb hv hvl hW hL hl hlt
  go_enter Tryz.func34, Tryz.ntmps34
  go_wp2_with fail
  refine hck.mono ?_
  clear hck q0 q1
  rintro e w2 ⟨rfl, hb2⟩
  have hS2 := Box.mk (hS1.out.below hb2 hS1.out.lt)
  have hB12 : Below w.heap.size w w2 := mono_bel hb1 hb2 (Nat.le_refl _)
  have hW2 : Pk.WAt w2 b 75 v l bad := hWB.out.chg (S := fun k => w.heap.size ≤ k) (Pk.Chg.of_below hB12) (by have := hltB.out; omega) (fun k hk => by have := hvB.out k hk; omega)
  have c2 : Pk.Chg (fun k => k = b ∨ v.ownBlock = some k) w w2 := (Pk.Chg.of_below hB12).mono fun i hi e => absurd e (by omega)
  have p2 : ∀ k, v.ownBlock = some k → v.ownBlock = some k ∨ w.heap.size ≤ k := fun k hk => .inl hk
  clear hW1 hb1 hb2 hS1 hz1 hbS hB12
  cases hg : chkB ids n with
  | false =>
    have hce : chkE ids n = 1 := by rw [chkE, hg]; rfl
    have hlaid : Laid [numI (-1)] l bad l true := ⟨by simp [numI, Pk.fits], fun h => (by cases h), by simp⟩
    have hz3 : Box (Lz w b 75 v [numI (-1)] l bad (w2.setCell ⟨b, 1, none⟩ (.bool true))) := ⟨Lz.step hW2 c2 p2 (Pk.WNext.setBad hW2 (by decide) true) hlaid rfl⟩
    have k1 : w2.cell? ⟨b, 1, none⟩ = some (.bool bad) := hW2.blk.cell 1
    have g1 := hW2.blk.free 1
    have hits : Box (setIs ids n = [numI (-1)]) := ⟨by rw [setIs, hg]; rfl⟩
    rw [hce]
    clear hce hg hW2 c2 p2 hlaid
    go_wp2_with fail
    go_returns
    exact ⟨rfl, by rw [hits.out]; exact hz3.out⟩
  | true =>
    have hce : chkE ids n = 0 := by rw [chkE, hg]; rfl
    have hF := Pk.xnum_any b v l bad (L : Int) 1 w2 (.inl rfl) (by have := hm; unfold maxLen at this; rw [hLB.out] at this; omega) hW2 (by have := hlB.out; omega)
    have hz := Box.mk fun w3 (h : Pk.WNext w2 b 75 v (Pk.laysX (Pk.fits (L : Int) 1) (Pk.beN (L : Int).toNat 1) l) (bad || !Pk.fits (L : Int) 1) w3) => (⟨Lz.step hW2 c2 p2 h (Laid.laysX (Laid.nil l bad) (Pk.fits (L : Int) 1) (Pk.beN (L : Int).toNat 1) fun _ => numI_le L) (show [numI L] = _ from rfl), wnext_blk hW2 h hS2.out (by decide) hne.out⟩ : Lz w b 75 v [numI L] l bad w3 ∧ Blk w3 bS [.slice a L c, .int .i64 n] 24)
    have hits : Box (setIs ids n = numI (L : Int) :: (ids.map idI ++ [numI n])) := ⟨by rw [setIs, hg, hLB.out]; rfl⟩
    have q0 := hS2.out.cell 0
    simp only [List.getElem?_cons_zero] at q0
    have hL16 : L ≤ 16 := by
      have := (chkB_iff ids n).1 hg
      rw [hLB.out] at this
      exact this.2.2.1
    rw [hce]
    clear hce hg hW2 c2 p2
    go_wp2_with fail
    refine hF.mono ?_
    clear hF q0
    rintro e w3 ⟨rfl, h3⟩
    have hz3 := hz.out w3 h3
    have hA0 : Box (Lz w b 75 v (numI L :: (ids.take 0).map idI) l bad w3 ∧ Blk w3 bS [.slice a L c, .int .i64 n] 24) := ⟨by simpa using hz3⟩
    have q0 := hz3.2.cell 0
    simp only [List.getElem?_cons_zero] at q0
    clear h3 hz hz3 hS2
    go_wp2_with fail
    go_loopw [4] (fun q wr => ∃ i : Nat, i ≤ L ∧ q = .int .i64 (i : Int) ∧ Box (Lz w b 75 v (numI L :: (ids.take i).map idI) l bad wr ∧ Blk wr bS [.slice a L c, .int .i64 n] 24)) (fun q _ => L - (intOf q).toNat)
    case atStart => exact ⟨0, by omega, rfl, hA0⟩
    case round =>
      clear hA0 q0
      obtain ⟨i, hi, rfl, hA⟩ := hrel
      have qr := hA.out.2.cell 0
      simp only [List.getElem?_cons_zero] at qr
      obtain ⟨v', l', bad', hW', hc', hp', hl'⟩ := hA.out.1.out
      have hlen := hl'.len
      have h17 : (numI L :: (ids.take i).map idI).length ≤ 17 := by
        simp only [List.length_cons, List.length_map, List.length_take]
        omega
      have hll : l'.length ≤ 35184372088000 := Nat.le_trans hlen (Nat.le_trans (Nat.add_le_add hlB.out (Nat.mul_le_mul_left 70000 h17)) (by decide))
      by_cases hlt : i < L
      · have hpr := hpB.out.here (hbel.out _ _ hA.out.1)
        obtain ⟨a9, c9, e9, hh9⟩ := hpr.ex
        rw [hLB.out] at e9 hh9
        cases e9
        obtain ⟨blk, off, rfl, _, hcell⟩ := hh9 (by omega)
        have hci := hcell i hlt
        obtain ⟨id, hid⟩ : ∃ x, ids.getD i ByteArray.empty = x := ⟨_, rfl⟩
        rw [hid] at hci
        have hF := Pk.xhash_lay b v' l' bad' id wr hW' hll
        have htk := idI_take ids i (by rw [hLB.out]; exact hlt)
        rw [hid] at htk
        have hz := Box.mk fun w3 (h : Pk.WNext wr b 75 v' (Pk.laysX (decide (id.size = 32)) id.data.toList l') (bad' || !decide (id.size = 32)) w3) => (⟨Lz.step hW' hc' hp' h (Laid.laysX hl' (decide (id.size = 32)) id.data.toList fun h => idI_le id h) (show numI L :: (ids.take (i + 1)).map idI = _ by rw [htk]; rfl), wnext_blk hW' h hA.out.2 (by decide) hne.out⟩ : Lz w b 75 v (numI L :: (ids.take (i + 1)).map idI) l bad w3 ∧ Blk w3 bS [.slice (some ⟨blk, off, none⟩) L c, .int .i64 n] 24)
        have hii : (i : Int) < (L : Int) := by omega
        clear hh9 hcell hpr hid htk hW' hc' hp' hl' hlen h17 hll hA
        go_wp2_with fail
        refine hF.mono ?_
        clear hF hci qr
        rintro e w4 ⟨rfl, h4⟩
        have hz4 := Box.mk (hz.out w4 h4)
        clear h4 hz
        go_wp2_with fail
        exact ⟨⟨i + 1, by omega, by go_num, hz4⟩, by simp [intOf]; omega⟩
      · obtain rfl : i = L := by omega
        have hF := Pk.xnum_any b v' l' bad' n 1 wr (.inl rfl) hn hW' (Nat.le_trans hll (by decide))
        have hall : ids.take i = ids := by rw [← hLB.out, List.take_length]
        have hz := Box.mk fun w3 (h : Pk.WNext wr b 75 v' (Pk.laysX (Pk.fits n 1) (Pk.beN n.toNat 1) l') (bad' || !Pk.fits n 1) w3) => Lz.step hW' hc' hp' h (Laid.laysX hl' (Pk.fits n 1) (Pk.beN n.toNat 1) fun _ => numI_le n) (show setIs ids n = _ by rw [hits.out, hall]; rfl)
        have q1 := hA.out.2.cell 1
        simp only [List.getElem?_cons_succ, List.getElem?_cons_zero] at q1
        clear hall hW' hc' hp' hl' hlen h17 hll hA hi hlt
        go_wp2_with fail
        refine hF.mono ?_
        clear hF q1 qr
        rintro e w4 ⟨rfl, h4⟩
        have hz4 := Box.mk (hz.out w4 h4)
        clear h4 hz
        go_wp2_with fail
        go_returns
        exact ⟨rfl, hz4.out⟩
theorem Laid.more {a : List (Bool × List UInt8)} {l l' : List UInt8} {bad : Bool} (h : Laid a l bad l' true) (b : List (Bool × List UInt8)) : Laid (a ++ b) l bad l' true := by
  refine ⟨?_, fun h => (by cases h), ?_⟩
  · rw [List.any_append, ← Bool.or_assoc, ← h.bad_eq]; rfl
  · have := h.len
    rw [List.length_append]; omega
set_option maxHeartbeats 3200000 in
set_option maxRecDepth 100000 in
theorem xlaysigs_any (b : Nat) (v : Value) (l : List UInt8) (bad : Bool) (a : Option Addr) (L c : Nat) (sg : List (ByteArray × ByteArray)) (W0 w : World) (hW : Pk.WAt w b 75 v l bad) (hp : SigsAt W0 (.slice a L c) sg) (hL : sg.length = L) (hB : Below W0.heap.size W0 w) (hb : W0.heap.size ≤ b) (hv : ∀ k, v.ownBlock = some k → W0.heap.size ≤ k) (hm : L ≤ 300) (hl : l.length ≤ 1000000000) :
    Calls Tryz.prog 62 #[.pointer (some ⟨b, 0, none⟩), .slice a L c] w fun e w' => e = .returned (.tuple #[]) ∧ Lz w b 75 v (sigIs sg) l bad w' := by
  have hbel : Box (∀ its w', Lz w b 75 v its l bad w' → Below W0.heap.size W0 w') := ⟨fun its w' h => h.below hB hb hv⟩
  have hF := Pk.xnum_any b v l bad (L : Int) 1 w (.inl rfl) (by omega) hW (by omega)
  have hz := Box.mk fun w3 (h : Pk.WNext w b 75 v (Pk.laysX (Pk.fits (L : Int) 1) (Pk.beN (L : Int).toNat 1) l) (bad || !Pk.fits (L : Int) 1) w3) => Lz.step hW (Pk.Chg.refl _ w) (fun k hk => .inl hk) h (Laid.laysX (Laid.nil l bad) (Pk.fits (L : Int) 1) (Pk.beN (L : Int).toNat 1) fun _ => numI_le L) (show [numI L] = _ from rfl)
  have hlB := Box.mk hl
  have hpB := Box.mk hp
  have hLB := Box.mk hL
  have hltB : Box (b < w.heap.size) := ⟨Pk.Blk.lt hW.blk⟩
  clear hp hB hb hv hW hL hl
  go_enter Tryz.func62, Tryz.ntmps62
  go_wp2_with fail
  refine hF.mono ?_
  clear hF
  rintro e w3 ⟨rfl, h3⟩
  have hA0 : Box (Lz w b 75 v (numI L :: (sg.take 0).flatMap fun x => [idI x.1, txI x.2]) l bad w3) := ⟨hz.out w3 h3⟩
  clear h3 hz
  go_wp2_with fail
  go_loopw [4] (fun q wr => ∃ i : Nat, i ≤ L ∧ q = .int .i64 (i : Int) ∧ Box (Lz w b 75 v (numI L :: (sg.take i).flatMap fun x => [idI x.1, txI x.2]) l bad wr)) (fun q _ => L - (intOf q).toNat)
  case atStart => exact ⟨0, by omega, rfl, hA0⟩
  case round =>
    clear hA0
    obtain ⟨i, hi, rfl, hA⟩ := hrel
    by_cases hlt : i < L
    · have hig : i < sg.length := by rw [hLB.out]; exact hlt
      obtain ⟨blk, off, rfl, k0, k1⟩ := (hpB.out.here (hbel.out _ _ hA.out)).at i hig
      have htk := sigI_take sg i hig
      obtain ⟨x, hx⟩ : ∃ x, sg.getD i default = x := ⟨_, rfl⟩
      rw [hx] at k0 k1 htk
      obtain ⟨x1, x2⟩ := x
      have hxe := Box.mk hx
      simp only at k0 k1 htk
      obtain ⟨v', l', bad', hW', hc', hp', hl'⟩ := hA.out.out
      have qb : wr.cell? ⟨b, 1, none⟩ = some (.bool bad') := hW'.blk.cell 1
      obtain ⟨its, hits⟩ : ∃ s, numI (L : Int) :: (sg.take i).flatMap (fun x => [idI x.1, txI x.2]) = s := ⟨_, rfl⟩
      have hil : its.length ≤ 601 := by
        rw [← hits, List.length_cons, sigI_len, List.length_take]
        omega
      have hnx : Box (numI (L : Int) :: (sg.take (i + 1)).flatMap (fun x => [idI x.1, txI x.2]) = (its ++ [idI x1]) ++ [txI x2]) := ⟨by rw [htk, ← hits]; rfl⟩
      rw [hits] at hl'
      have hlen := hl'.len
      have hll : l'.length ≤ 35184372088000 := Nat.le_trans hlen (Nat.le_trans (Nat.add_le_add hlB.out (Nat.mul_le_mul_left 70000 hil)) (by decide))
      have hF := Pk.xhash_lay b v' l' bad' x1 wr hW' hll
      have hz := Box.mk fun w3 (h : Pk.WNext wr b 75 v' (Pk.laysX (decide (x1.size = 32)) x1.data.toList l') (bad' || !decide (x1.size = 32)) w3) => Lz.step hW' hc' hp' h (Laid.laysX hl' (decide (x1.size = 32)) x1.data.toList fun h => idI_le x1 h) (show its ++ [idI x1] = _ from rfl)
      have hii : (i : Int) < (L : Int) := by omega
      have hilB := Box.mk hil
      cases bad' with
      | true =>
        have hfin : Box (Lz w b 75 v (sigIs sg) l bad wr) := ⟨by
          have e : sigIs sg = its ++ (sg.drop i).flatMap (fun x => [idI x.1, txI x.2]) := by
            rw [sigIs, hLB.out, ← hits, List.cons_append, ← List.flatMap_append, List.take_append_drop]
          rw [e]
          exact ⟨v', l', true, hW', hc', hp', hl'.more _⟩⟩
        clear hz hF hW' hc' hp' hl' hlen hll hA hits htk hx hig hil
        go_wp2_with fail
        go_returns
        exact ⟨rfl, hfin.out⟩
      | false =>
      clear hW' hc' hp' hl' hlen hll hA hits htk hx hil
      go_wp2_with fail
      refine hF.mono ?_
      clear hF k0 k1 qb
      rintro e w4 ⟨rfl, h4⟩
      have hz4 := hz.out w4 h4
      obtain ⟨blk2, off2, e2, _, q1⟩ := (hpB.out.here (hbel.out _ _ hz4)).at i hig
      cases e2
      rw [hxe.out] at q1
      obtain ⟨v2, l2, bad2, hW2, hc2, hp2, hl2⟩ := hz4.out
      have hlen := hl2.len
      have hil2 : (its ++ [idI x1]).length ≤ 602 := by
        rw [List.length_append]
        exact Nat.add_le_add hilB.out (Nat.le_refl 1)
      have hll : l2.length ≤ 35184372088000 := Nat.le_trans hlen (Nat.le_trans (Nat.add_le_add hlB.out (Nat.mul_le_mul_left 70000 hil2)) (by decide))
      have hF := Pk.xtext_lay b v2 l2 bad2 x2 w4 hW2 hll
      have hz2 := Box.mk fun w3 (h : Pk.WNext w4 b 75 v2 (Pk.laysX (decide (x2.size ≤ 65535)) (Pk.textL x2) l2) (bad2 || !decide (x2.size ≤ 65535)) w3) => Lz.step hW2 hc2 hp2 h (Laid.laysX hl2 (decide (x2.size ≤ 65535)) (Pk.textL x2) fun h => txI_le x2 h) (show (its ++ [idI x1]) ++ [txI x2] = _ from rfl)
      clear hW2 hc2 hp2 hl2 hlen hll hil2 hz hz4 h4 hig
      go_wp2_with fail
      refine hF.mono ?_
      clear hF q1
      rintro e w5 ⟨rfl, h5⟩
      have hz5 := Box.mk (hz2.out w5 h5)
      rw [← hnx.out] at hz5
      clear h5 hz2
      go_wp2_with fail
      exact ⟨⟨i + 1, by omega, by go_num, hz5⟩, by simp [intOf]; omega⟩
    · obtain rfl : i = L := by omega
      have hall : sg.take i = sg := by rw [← hLB.out, List.take_length]
      have hfin : Box (Lz w b 75 v (sigIs sg) l bad wr) := ⟨by
        have := hA.out
        rw [hall] at this
        rw [sigIs, hLB.out]
        exact this⟩
      clear hA hall
      go_wp2_with fail
      go_returns
      exact ⟨rfl, hfin.out⟩
end Go.Proofs.YtiblkfkeifnpaaaGreatDoor

namespace Go.Proofs.YtiblkfkeifnpaaaGreatDoor
open Go Go.RowKit

def sigsR : Nat → List UInt8 → Int → List (ByteArray × ByteArray) × List UInt8 × Int
  | 0, l, e => ([], l, e)
  | k + 1, l, e => ((sigsR k l e).1 ++ [(Pk.btx (Pk.rawR 32 (sigsR k l e).2.1 (sigsR k l e).2.2).1, Pk.btx (Pk.textR 1024 (Pk.rawR 32 (sigsR k l e).2.1 (sigsR k l e).2.2).2.1 (Pk.rawR 32 (sigsR k l e).2.1 (sigsR k l e).2.2).2.2).1)],
      (Pk.textR 1024 (Pk.rawR 32 (sigsR k l e).2.1 (sigsR k l e).2.2).2.1 (Pk.rawR 32 (sigsR k l e).2.1 (sigsR k l e).2.2).2.2).2.1, (Pk.textR 1024 (Pk.rawR 32 (sigsR k l e).2.1 (sigsR k l e).2.2).2.1 (Pk.rawR 32 (sigsR k l e).2.1 (sigsR k l e).2.2).2.2).2.2)
theorem sigsR_len : ∀ (k : Nat) (l : List UInt8) (e : Int), (sigsR k l e).1.length = k
  | 0, _, _ => rfl
  | k + 1, l, e => by
    show ((sigsR k l e).1 ++ [_]).length = k + 1
    rw [List.length_append, sigsR_len k l e]; rfl
/-- A count of one byte. -/
theorem num1 (l : List UInt8) (e : Int) : ∃ n : Nat, (Pk.numR 1 l e).1 = (n : Int) ∧ n < 256 := by
  unfold Pk.numR
  split
  · exact ⟨0, rfl, by decide⟩
  · split
    · exact ⟨0, rfl, by decide⟩
    · next h =>
      split
      · exact ⟨0, rfl, by decide⟩
      · exact ⟨_, rfl, Pk.numL_lt 1 (l.take 1) (by rw [List.length_take]; omega)⟩
def takeS (l : List UInt8) (e : Int) : List (ByteArray × ByteArray) × List UInt8 × Int := sigsR (Pk.numR 1 l e).1.toNat (Pk.numR 1 l e).2.1 (Pk.numR 1 l e).2.2
def okS (r : List (ByteArray × ByteArray) × List UInt8 × Int) : List (ByteArray × ByteArray) := if r.2.2 = 0 then r.1 else []
/-- Signatures taken, in a row of their own; the reader behind it. -/
structure TkS (w : World) (b : Nat) (t : TypeId) (v : Value) (sg : List (ByteArray × ByteArray)) (l : List UInt8) (e : Int) (w' : World) : Prop where
  row : Pk.Row w' 59 2 v sg.length (sgC sg)
  own : ∀ k, v.ownBlock = some k → w.heap.size ≤ k
  at_ : Pk.RAt w' b t l e
  chg : Pk.Chg (fun k => k = b) w w'
theorem TkS.next {w w1 w2 : World} {b : Nat} {t : TypeId} {v : Value} {sg : List (ByteArray × ByteArray)} {l l2 : List UInt8} {e e2 : Int} (h : TkS w b t v sg l e w1) (hb : b < w.heap.size) (hn : Pk.RNext w1 b t l2 e2 w2) : TkS w b t v sg l2 e2 w2 :=
  ⟨h.row.chg hn.chg fun k hk e => (by have := h.own k hk; omega), h.own, hn.at_, h.chg.trans hn.chg fun _ _ h => h⟩
theorem TkS.here {w w1 w2 : World} {b : Nat} {t : TypeId} {v : Value} {sg : List (ByteArray × ByteArray)} {l : List UInt8} {e : Int} (h : TkS w b t v sg l e w1) (hb : Below w1.heap.size w1 w2) : TkS w b t v sg l e w2 :=
  ⟨row_here h.row hb, h.own, (chg0 (S := fun _ => False) hb).blk h.at_ fun h => h, h.chg.trans (Pk.Chg.of_below hb) fun i hi e => (by have := h.chg.size; omega)⟩
theorem TkS.push {w w1 w2 : World} {b : Nat} {t : TypeId} {v v' : Value} {sg : List (ByteArray × ByteArray)} {x : ByteArray × ByteArray} {l : List UInt8} {e : Int} (h : TkS w b t v sg l e w1) (hb : b < w.heap.size) (hp : Pk.PushedRow w1 59 2 v (sg.length + 1) (sgC sg ++ sigC x) v' w2) : TkS w b t v' (sg ++ [x]) l e w2 := by
  have hs := h.chg.size
  refine ⟨by rw [sgC_snoc, List.length_append]; exact hp.row, fun k hk => ?_, hp.chg.blk h.at_ fun e => ?_, h.chg.trans hp.chg fun i hi e => ?_⟩
  · rcases hp.place k hk with h3 | h3
    · exact h.own k h3
    · omega
  · have := h.own b e
    omega
  · have := h.own i e
    omega
theorem row_new (w : World) (cs : List Value) (e : TypeId) : ∀ j u, cs[j]? = some u → (w.alloc (.cells cs.toArray e)).cell? ((⟨w.heap.size, 0, none⟩ : Addr).add j) = some u := fun j u hj => by
  have hadd : (⟨w.heap.size, 0, none⟩ : Addr).add j = ⟨w.heap.size, j, none⟩ := by unfold Addr.add; split <;> simp_all
  rw [hadd, ← hj]
  exact (Blk.new w cs e).cell j
set_option maxHeartbeats 3200000 in
set_option maxRecDepth 100000 in
theorem xtakesigs_any (b : Nat) (l : List UInt8) (e : Int) (w : World) (h : Pk.RAt w b 124 l e) :
    Calls Tryz.prog 65 #[.pointer (some ⟨b, 0, none⟩)] w fun r w' => ∃ v, r = .returned v ∧ TkS w b 124 v (okS (takeS l e)) (takeS l e).2.1 (takeS l e).2.2 w' := by
  have hF := Pk.xnumber_any b l e 1 w h (by omega)
  have hlt : b < w.heap.size := Pk.Blk.lt h
  obtain ⟨i0, hi0, hz0, hz1, hz2⟩ := info_parts info_sig
  obtain ⟨n, hn, hn256⟩ := num1 l e
  have hT : takeS l e = sigsR n (Pk.numR 1 l e).2.1 (Pk.numR 1 l e).2.2 := by rw [takeS, hn]; rfl
  rw [hn] at hF
  obtain ⟨m, hm⟩ : ∃ m, (Pk.numR 1 l e).2.1 = m := ⟨_, rfl⟩
  obtain ⟨f, hf⟩ : ∃ f, (Pk.numR 1 l e).2.2 = f := ⟨_, rfl⟩
  rw [hm, hf] at hF hT
  obtain ⟨T, hTe⟩ : ∃ T, takeS l e = T := ⟨_, rfl⟩
  rw [hTe] at hT ⊢
  have hlB := Box.mk hlt
  have hTB := Box.mk hT
  clear h hlt hn hm hf hTe hT
  go_enter Tryz.func65, Tryz.ntmps65
  go_wp2_with fail
  refine hF.mono ?_
  clear hF
  rintro r w1 ⟨rfl, h1⟩
  have hA0 : Box (TkS w b 124 (.slice none 0 0) (sigsR 0 m f).1 (sigsR 0 m f).2.1 (sigsR 0 m f).2.2 w1) := ⟨⟨Pk.Row.nil _ _ _, (fun k hk => by cases hk), h1.at_, h1.chg⟩⟩
  clear h1
  go_wp2_with fail
  go_loopw [3, 5, 6] (fun v3 q _ wr => ∃ i : Nat, i ≤ n ∧ q = .int .i64 (i : Int) ∧ Box (TkS w b 124 v3 (sigsR i m f).1 (sigsR i m f).2.1 (sigsR i m f).2.2 wr)) (fun _ q _ _ => n - (intOf q).toNat)
  case atStart => exact ⟨0, by omega, rfl, hA0⟩
  case round =>
    clear hA0
    obtain ⟨i, hi, rfl, hA⟩ := hrel
    obtain ⟨a3, c3, e3⟩ := hA.out.row.shape
    rw [sigsR_len] at e3
    subst e3
    by_cases hlt : i < n
    · have hs : Box (sigsR (i + 1) m f = _) := ⟨rfl⟩
      have hsl := sigsR_len i m f
      obtain ⟨R, hR⟩ : ∃ R, sigsR i m f = R := ⟨_, rfl⟩
      have hnx : sigsR (i + 1) m f = (R.1 ++ [(Pk.btx (Pk.rawR 32 R.2.1 R.2.2).1, Pk.btx (Pk.textR 1024 (Pk.rawR 32 R.2.1 R.2.2).2.1 (Pk.rawR 32 R.2.1 R.2.2).2.2).1)], (Pk.textR 1024 (Pk.rawR 32 R.2.1 R.2.2).2.1 (Pk.rawR 32 R.2.1 R.2.2).2.2).2.1, (Pk.textR 1024 (Pk.rawR 32 R.2.1 R.2.2).2.1 (Pk.rawR 32 R.2.1 R.2.2).2.2).2.2) := by rw [← hR]; rfl
      rw [hR] at hA hsl
      have hF := Pk.xraw_any b R.2.1 R.2.2 32 wr hA.out.at_
      obtain ⟨X, hX⟩ : ∃ X, Pk.rawR 32 R.2.1 R.2.2 = X := ⟨_, rfl⟩
      rw [hX] at hF hnx
      have hF2 := Box.mk fun wz (hz : Pk.RAt wz b 124 X.2.1 X.2.2) => Pk.xtext_any b X.2.1 X.2.2 1024 wz hz
      obtain ⟨Y, hY⟩ : ∃ Y, Pk.textR 1024 X.2.1 X.2.2 = Y := ⟨_, rfl⟩
      rw [hY] at hF2 hnx
      have hnxB := Box.mk hnx
      have hslB := Box.mk hsl
      have hii : (i : Int) < (n : Int) := by omega
      clear hs hR hnx hX hY hsl
      go_wp2_with fail
      refine hF.mono ?_
      clear hF
      rintro r w4 ⟨rfl, h4⟩
      have hA4 := Box.mk (hA.out.next hlB.out h4)
      have hF := hF2.out w4 h4.at_
      clear h4 hA hF2
      obtain ⟨x1, hx1⟩ : ∃ x, Pk.btx X.1 = x := ⟨_, rfl⟩
      obtain ⟨y1, hy1⟩ : ∃ x, Pk.btx Y.1 = x := ⟨_, rfl⟩
      rw [hx1]
      rw [hy1] at hF
      rw [hx1, hy1] at hnxB
      clear hx1 hy1
      go_wp2_with fail
      refine hF.mono ?_
      clear hF
      rintro r w5 ⟨rfl, h5⟩
      have hA5 := Box.mk (hA4.out.next hlB.out h5)
      clear h5 hA4
      go_wp2_with (at_builtin; refine Pk.wpList_pushR rfl (.tmp 16) (.tmp 21) 46 59 rfl i0 (.agg #[.string ByteArray.empty, .string ByteArray.empty]) 2 32 Tryz.underlying46 hi0 hz0 hz1 hz2 rfl (by decide) _ i (sgC R.1) rfl (by have h := hA5.out.row; rw [hslB.out] at h; exact row_here h (bel_alloc _ _)) ⟨w5.heap.size, 0, none⟩ 1 1 [.string x1, .string y1] rfl rfl (row_new _ _ _) (by simp [Value.oneCell']) (by unfold maxLen; omega) (by omega) ?_)
      intro v6 w6 hp6
      have hA6 := Box.mk ((hA5.out.here (bel_alloc w5 (.cells #[.string x1, .string y1] 59))).push (x := (x1, y1)) hlB.out (by rw [hslB.out]; exact hp6))
      clear hp6 hA5
      have hA7 : Box (TkS w b 124 v6 (sigsR (i + 1) m f).1 (sigsR (i + 1) m f).2.1 (sigsR (i + 1) m f).2.2 w6) := ⟨by rw [hnxB.out]; exact hA6.out⟩
      clear hA6
      go_wp2_with fail
      exact ⟨⟨i + 1, by omega, by go_num, hA7⟩, by simp [intOf]; omega⟩
    · obtain rfl : i = n := by omega
      have hlen := sigsR_len i m f
      rw [← hTB.out] at hA hlen
      have k1 : wr.cell? ⟨b, 1, none⟩ = some (.int .i64 T.2.2) := hA.out.at_.cell 1
      obtain ⟨E, hE⟩ : ∃ E, T.2.2 = E := ⟨_, rfl⟩
      rw [hE] at k1
      by_cases he : E = 0
      · subst he
        have hok : Box (okS T = T.1) := ⟨by rw [okS, if_pos hE]⟩
        clear hE hi hlt hlen
        go_wp2_with fail
        go_ret
        exact ⟨_, rfl, by rw [hok.out]; exact hA.out⟩
      · have hok : Box (okS T = []) := ⟨by rw [okS, if_neg (by rw [hE]; exact he)]⟩
        have hne : (E == 0) = false := by simpa using he
        have hnil : Box (TkS w b 124 (.slice none 0 0) [] T.2.1 T.2.2 wr) := ⟨⟨Pk.Row.nil _ _ _, (fun k hk => by cases hk), hA.out.at_, hA.out.chg⟩⟩
        clear hE hi hlt he hlen hA
        go_wp2_with fail
        go_ret
        exact ⟨_, rfl, by rw [hok.out]; exact hnil.out⟩
end Go.Proofs.YtiblkfkeifnpaaaGreatDoor

namespace Go.Proofs.YtiblkfkeifnpaaaGreatDoor
open Go Go.RowKit

theorem sgC_len (sg : List (ByteArray × ByteArray)) : (sgC sg).length = sg.length * 2 := by
  induction sg with
  | nil => rfl
  | cons x sg ih =>
    have e : sgC (x :: sg) = .string x.1 :: .string x.2 :: sgC sg := rfl
    rw [e]
    simp [ih]; omega
theorem Row_put {w : World} {e : TypeId} {size g n c : Nat} {xs : List Value} (h : Pk.Row w e size (.slice (some ⟨g, 0, none⟩) n c) n xs) (j : Nat) (u : Value) : Pk.Row (w.setCell ⟨g, j, none⟩ u) e size (.slice (some ⟨g, 0, none⟩) n c) n (xs.set j u) := by
  obtain ⟨hx, ⟨h0, _⟩ | ⟨g2, cap, cur, e1, b1, hg, k1, k2, k3, k4⟩⟩ := h
  · cases h0
  · cases e1
    refine ⟨by rw [List.length_set]; exact hx, .inr ⟨g, c, cur.setIfInBounds j u, rfl, b1, heap_setCell_same w g j cur e u hg, k1, k2, by simpa using k3, ?_⟩⟩
    rw [Array.toList_setIfInBounds, List.take_set, k4]
theorem Row_free {w : World} {e : TypeId} {size g n c : Nat} {xs : List Value} (h : Pk.Row w e size (.slice (some ⟨g, 0, none⟩) n c) n xs) (j : Nat) : w.frozen? ⟨g, j, none⟩ = false := by
  obtain ⟨_, ⟨h0, _⟩ | ⟨g2, cap, cur, e1, b1, hg, _⟩⟩ := h
  · cases h0
  · cases e1
    exact frozen_of_row w g j cur _ hg
/-- A row that was made, whatever stands in it; the reader beside. -/
structure TkR (w : World) (b : Nat) (t e : TypeId) (size g n : Nat) (xs : List Value) (l : List UInt8) (er : Int) (w' : World) : Prop where
  row : Pk.Row w' e size (.slice (some ⟨g, 0, none⟩) n n) n xs
  own : w.heap.size ≤ g
  at_ : Pk.RAt w' b t l er
  chg : Pk.Chg (fun k => k = b) w w'
theorem TkR.next {w w1 w2 : World} {b : Nat} {t e : TypeId} {size g n : Nat} {xs : List Value} {l l2 : List UInt8} {er er2 : Int} (h : TkR w b t e size g n xs l er w1) (hb : b < w.heap.size) (hn : Pk.RNext w1 b t l2 er2 w2) : TkR w b t e size g n xs l2 er2 w2 :=
  ⟨h.row.chg hn.chg fun k hk ee => (by have hk2 : g = k := (by simpa [Value.ownBlock] using hk); have := h.own; omega), h.own, hn.at_, h.chg.trans hn.chg fun _ _ h => h⟩
theorem TkR.put {w w1 : World} {b : Nat} {t e : TypeId} {size g n : Nat} {xs : List Value} {l : List UInt8} {er : Int} (h : TkR w b t e size g n xs l er w1) (hb : b < w.heap.size) (j : Nat) (u : Value) : TkR w b t e size g n (xs.set j u) l er (w1.setCell ⟨g, j, none⟩ u) :=
  ⟨Row_put h.row j u, h.own, Blk.setCell_other (show Blk w1 _ _ _ from h.at_) _ _ (by have := h.own; simp; omega), h.chg.trans ((Pk.Chg.refl (fun k => k = g) w1).setCell rfl u) fun i hi ee => (by have := h.own; have ee : i = g := ee; omega)⟩
theorem set_mid (a r : List Value) (x y u v : Value) (j : Nat) (hj : a.length = j) : ((a ++ (u :: v :: r)).set j x).set (j + 1) y = a ++ [x, y] ++ r := by
  subst hj
  simp
set_option maxHeartbeats 3200000 in
set_option maxRecDepth 100000 in
theorem takesigs_any (b : Nat) (l : List UInt8) (e : Int) (w : World) (h : Pk.RAt w b 119 l e) :
    Calls Tryz.prog 64 #[.pointer (some ⟨b, 0, none⟩)] w fun r w' => ∃ v, r = .returned v ∧ TkS w b 119 v (okS (takeS l e)) (takeS l e).2.1 (takeS l e).2.2 w' := by
  have hF := Pk.rbyte_any b l e w h
  have hlt : b < w.heap.size := Pk.Blk.lt h
  obtain ⟨i0, hi0, hz0, hz1, hz2⟩ := info_parts info_sig
  have hH := Box.mk (And.intro hi0 (And.intro hz0 (And.intro hz1 hz2)))
  obtain ⟨n, hn, hn256⟩ := num1 l e
  have hT : takeS l e = sigsR n (Pk.numR 1 l e).2.1 (Pk.numR 1 l e).2.2 := by rw [takeS, hn]; rfl
  rw [hn] at hF
  obtain ⟨m, hm⟩ : ∃ m, (Pk.numR 1 l e).2.1 = m := ⟨_, rfl⟩
  obtain ⟨f, hf⟩ : ∃ f, (Pk.numR 1 l e).2.2 = f := ⟨_, rfl⟩
  rw [hm, hf] at hF hT
  obtain ⟨T, hTe⟩ : ∃ T, takeS l e = T := ⟨_, rfl⟩
  rw [hTe] at hT ⊢
  have hlB := Box.mk hlt
  have hTB := Box.mk hT
  clear h hlt hn hm hf hTe hT hi0 hz0 hz1 hz2
  go_enter Tryz.func64, Tryz.ntmps64
  go_wp2_with fail
  refine hF.mono ?_
  clear hF
  rintro r w1 ⟨rfl, h1⟩
  have h1B := Box.mk h1
  clear h1
  go_wp2_with (at_make; refine wpList_make_full _ rfl (.tmp 6) (.tmp 6) 46 rfl 0 59 i0 (.agg #[.string ByteArray.empty, .string ByteArray.empty]) 2 Tryz.underlying46 hH.out.1 hH.out.2.1 hH.out.2.2.1 .i64 .i64 _ _ n rfl rfl rfl rfl (by rw [hH.out.2.2.2]; omega) (by unfold maxLen; omega) (Nat.zero_le _) ?_; intro w2 hown hg; replace hown := Box.mk hown; replace hg := Box.mk hg)
  have hb2 : Below w1.heap.size w1 w2 := ⟨hg.out.os, hg.out.tape, hg.out.output, hg.out.size, fun k hk => hg.out.block k hk (by simp)⟩
  obtain ⟨g, hge⟩ : ∃ g, w1.heap.size = g := ⟨_, rfl⟩
  have hA0 : Box (∃ rest, rest.length = (n - 0) * 2 ∧ TkR w b 119 59 2 g n (sgC (sigsR 0 m f).1 ++ rest) (sigsR 0 m f).2.1 (sigsR 0 m f).2.2 w2) := ⟨by
    have hr := hown.out
    rw [hge] at hr
    refine ⟨_, hr.1, hr, by rw [← hge]; exact h1B.out.chg.size, (chg0 (S := fun _ => False) hb2).blk h1B.out.at_ fun h => h, h1B.out.chg.trans (Pk.Chg.of_below hb2) fun i hi e => (by have := h1B.out.chg.size; omega)⟩⟩
  rw [hge]
  clear hown hg hb2 h1B hge hH
  go_loopw [4, 10] (fun _ q wr => ∃ i : Nat, i ≤ n ∧ q = .int .i64 (i : Int) ∧ Box (∃ rest, rest.length = (n - i) * 2 ∧ TkR w b 119 59 2 g n (sgC (sigsR i m f).1 ++ rest) (sigsR i m f).2.1 (sigsR i m f).2.2 wr)) (fun _ q _ => n - (intOf q).toNat)
  case atStart => exact ⟨0, by omega, rfl, hA0⟩
  case round =>
    clear hA0
    obtain ⟨i, hi, rfl, hA⟩ := hrel
    by_cases hlt : i < n
    · obtain ⟨rest, hrl, hA1⟩ := hA.out
      have hsl := sigsR_len i m f
      obtain ⟨R, hR⟩ : ∃ R, sigsR i m f = R := ⟨_, rfl⟩
      have hnx : sigsR (i + 1) m f = (R.1 ++ [(Pk.btx (Pk.rawR 32 R.2.1 R.2.2).1, Pk.btx (Pk.textR 1024 (Pk.rawR 32 R.2.1 R.2.2).2.1 (Pk.rawR 32 R.2.1 R.2.2).2.2).1)], (Pk.textR 1024 (Pk.rawR 32 R.2.1 R.2.2).2.1 (Pk.rawR 32 R.2.1 R.2.2).2.2).2.1, (Pk.textR 1024 (Pk.rawR 32 R.2.1 R.2.2).2.1 (Pk.rawR 32 R.2.1 R.2.2).2.2).2.2) := by rw [← hR]; rfl
      rw [hR] at hA1 hsl
      obtain ⟨u1, u2, rest2, rfl⟩ : ∃ u1 u2 r2, rest = u1 :: u2 :: r2 := by
        match rest, hrl with
        | [], h => simp at h; omega
        | [_], h => simp at h; omega
        | u1 :: u2 :: r2, _ => exact ⟨u1, u2, r2, rfl⟩
      have hrl2 : Box (rest2.length = (n - (i + 1)) * 2) := ⟨by simp at hrl; omega⟩
      have hcl : (sgC R.1).length = i * 2 := by rw [sgC_len, hsl]
      have hg1 : (sgC R.1 ++ u1 :: u2 :: rest2)[i * 2]? = some u1 := by rw [List.getElem?_append_right (by omega), hcl]; simp
      have hg2 : ∀ x, ((sgC R.1 ++ u1 :: u2 :: rest2).set (i * 2) x)[i * 2 + 1]? = some u2 := fun x => by
        rw [List.getElem?_set_ne (by omega), List.getElem?_append_right (by omega), hcl]; simp
      have hg2B := Box.mk hg2
      have hF := Pk.rhash_any b R.2.1 R.2.2 wr hA1.at_
      obtain ⟨X, hX⟩ : ∃ X, Pk.rawR 32 R.2.1 R.2.2 = X := ⟨_, rfl⟩
      rw [hX] at hF hnx
      have hF2 := Box.mk fun wz (hz : Pk.RAt wz b 119 X.2.1 X.2.2) => Pk.rtext_any b X.2.1 X.2.2 1024 wz hz
      obtain ⟨Y, hY⟩ : ∃ Y, Pk.textR 1024 X.2.1 X.2.2 = Y := ⟨_, rfl⟩
      rw [hY] at hF2 hnx
      have hnxB := Box.mk hnx
      have hg1B := Box.mk hg1
      have hclB := Box.mk hcl
      have hA1B := Box.mk hA1
      have hii : (i : Int) < (n : Int) := by omega
      clear hA hR hnx hX hY hsl hrl hcl hg1 hg2 hA1
      go_wp2_with fail
      refine hF.mono ?_
      clear hF
      rintro r w4 ⟨rfl, h4⟩
      have hA4 := hA1B.out.next hlB.out h4
      have k1 := hA4.row.cells _ _ hg1B.out
      have g1 := Row_free hA4.row (i * 2)
      have hA4B := Box.mk hA4
      obtain ⟨x1, hx1⟩ : ∃ x, Pk.btx X.1 = x := ⟨_, rfl⟩
      obtain ⟨y1, hy1⟩ : ∃ x, Pk.btx Y.1 = x := ⟨_, rfl⟩
      have hA5 := hA4.put hlB.out (i * 2) (.string x1)
      obtain ⟨w5, hw5⟩ : ∃ w5, w4.setCell ⟨g, i * 2, none⟩ (.string x1) = w5 := ⟨_, rfl⟩
      rw [hw5] at hA5
      have hF := hF2.out w5 hA5.at_
      rw [hx1]
      rw [hy1] at hF
      rw [hx1, hy1] at hnxB
      have hA5B := Box.mk hA5
      clear hx1 hy1 h4 hA4 hF2 hA5 hA4B hA1B
      go_wp2_with fail
      refine hF.mono ?_
      clear hF k1 g1 hw5
      rintro r w6 ⟨rfl, h6⟩
      have hA6 := hA5B.out.next hlB.out h6
      have k2 := hA6.row.cells _ _ (hg2B.out (.string x1))
      have g2 := Row_free hA6.row (i * 2 + 1)
      have hA7 := hA6.put hlB.out (i * 2 + 1) (.string y1)
      rw [set_mid _ _ _ _ _ _ _ hclB.out] at hA7
      obtain ⟨w7, hw7⟩ : ∃ w7, w6.setCell ⟨g, i * 2 + 1, none⟩ (.string y1) = w7 := ⟨_, rfl⟩
      rw [hw7] at hA7
      have hA8 : Box (∃ rest, rest.length = (n - (i + 1)) * 2 ∧ TkR w b 119 59 2 g n (sgC (sigsR (i + 1) m f).1 ++ rest) (sigsR (i + 1) m f).2.1 (sigsR (i + 1) m f).2.2 w7) := ⟨rest2, hrl2.out, by rw [hnxB.out, sgC_snoc]; exact hA7⟩
      clear h6 hA6 hA7 hA5B
      go_wp2_with fail
      exact ⟨⟨i + 1, by omega, by go_num, hA8⟩, by simp [intOf]; omega⟩
    · obtain rfl : i = n := by omega
      have hlen := sigsR_len i m f
      rw [← hTB.out] at hA hlen
      obtain ⟨rest, hrl, hA1⟩ := hA.out
      obtain rfl : rest = [] := List.length_eq_zero_iff.1 (by rw [hrl]; simp)
      rw [List.append_nil] at hA1
      have hF := Pk.err_any b T.2.1 T.2.2 wr hA1.at_
      obtain ⟨E, hE⟩ : ∃ E, T.2.2 = E := ⟨_, rfl⟩
      rw [hE] at hF
      have hA1B := Box.mk hA1
      by_cases he : E = 0
      · subst he
        have hok : Box (okS T = T.1) := ⟨by rw [okS, if_pos hE]⟩
        have hlenB := Box.mk hlen
        clear hE hi hlt hlen hA hA1 hrl
        go_wp2_with fail
        refine hF.mono ?_
        clear hF
        rintro r w9 ⟨rfl, rfl⟩
        go_wp2_with fail
        go_ret
        exact ⟨_, rfl, by
          rw [hok.out]
          exact ⟨by rw [hlenB.out]; exact hA1B.out.row, fun k hk => (by cases hk; exact hA1B.out.own), hA1B.out.at_, hA1B.out.chg⟩⟩
      · have hok : Box (okS T = []) := ⟨by rw [okS, if_neg (by rw [hE]; exact he)]⟩
        have hne : (E == 0) = false := by simpa using he
        clear hE hi hlt he hlen hA hA1 hrl
        go_wp2_with fail
        refine hF.mono ?_
        clear hF
        rintro r w9 ⟨rfl, rfl⟩
        go_wp2_with fail
        go_ret
        exact ⟨_, rfl, by
          rw [hok.out]
          exact ⟨Pk.Row.nil _ _ _, fun k hk => (by cases hk), hA1B.out.at_, hA1B.out.chg⟩⟩
end Go.Proofs.YtiblkfkeifnpaaaGreatDoor

namespace Go.Proofs.YtiblkfkeifnpaaaGreatDoor
open Go Go.RowKit

def rawsR : Nat → List UInt8 → Int → List ByteArray × List UInt8 × Int
  | 0, l, e => ([], l, e)
  | k + 1, l, e => ((rawsR k l e).1 ++ [Pk.btx (Pk.rawR 32 (rawsR k l e).2.1 (rawsR k l e).2.2).1], (Pk.rawR 32 (rawsR k l e).2.1 (rawsR k l e).2.2).2.1, (Pk.rawR 32 (rawsR k l e).2.1 (rawsR k l e).2.2).2.2)
theorem rawsR_len : ∀ (k : Nat) (l : List UInt8) (e : Int), (rawsR k l e).1.length = k
  | 0, _, _ => rfl
  | k + 1, l, e => by
    show ((rawsR k l e).1 ++ [_]).length = k + 1
    rw [List.length_append, rawsR_len k l e]; rfl
/-- All that is read of a set, ahead of the check: texts, number, what is left, the error. -/
def takeA (l : List UInt8) (e : Int) : List ByteArray × Int × List UInt8 × Int :=
  ((rawsR (Pk.numR 1 l e).1.toNat (Pk.numR 1 l e).2.1 (Pk.numR 1 l e).2.2).1,
   (Pk.numR 1 (rawsR (Pk.numR 1 l e).1.toNat (Pk.numR 1 l e).2.1 (Pk.numR 1 l e).2.2).2.1 (rawsR (Pk.numR 1 l e).1.toNat (Pk.numR 1 l e).2.1 (Pk.numR 1 l e).2.2).2.2).1,
   (Pk.numR 1 (rawsR (Pk.numR 1 l e).1.toNat (Pk.numR 1 l e).2.1 (Pk.numR 1 l e).2.2).2.1 (rawsR (Pk.numR 1 l e).1.toNat (Pk.numR 1 l e).2.1 (Pk.numR 1 l e).2.2).2.2).2.1,
   (Pk.numR 1 (rawsR (Pk.numR 1 l e).1.toNat (Pk.numR 1 l e).2.1 (Pk.numR 1 l e).2.2).2.1 (rawsR (Pk.numR 1 l e).1.toNat (Pk.numR 1 l e).2.1 (Pk.numR 1 l e).2.2).2.2).2.2)
def errT (T : List ByteArray × Int × List UInt8 × Int) : Int := if chkB T.1 T.2.1 then T.2.2.2 else Pk.failE T.2.2.2 3
def idsT (T : List ByteArray × Int × List UInt8 × Int) : List ByteArray := if errT T = 0 then T.1 else []
def needT (T : List ByteArray × Int × List UInt8 × Int) : Int := if errT T = 0 then T.2.1 else 0
/-- In the loop: the set's box (it holds vb), the answer's box, the row v, the reader. -/
structure XTk (w : World) (b bR bS : Nat) (t : TypeId) (vb v : Value) (need : Int) (ids : List ByteArray) (l : List UInt8) (e : Int) (w' : World) : Prop where
  res : Blk w' bR [.slice none 0 0, .int .i64 0] 24
  box : Blk w' bS [vb, .int .i64 need] 24
  row : TxR w.heap.size w' v ids
  at_ : Pk.RAt w' b t l e
  chg : Pk.Chg (fun k => k = b) w w'
theorem XTk.next {w w1 w2 : World} {b bR bS : Nat} {t : TypeId} {vb v : Value} {need : Int} {ids : List ByteArray} {l l2 : List UInt8} {e e2 : Int} (h : XTk w b bR bS t vb v need ids l e w1) (hb : b < w.heap.size) (h1 : w.heap.size ≤ bR) (h2 : w.heap.size ≤ bS) (hn : Pk.RNext w1 b t l2 e2 w2) : XTk w b bR bS t vb v need ids l2 e2 w2 :=
  ⟨hn.chg.blk h.res (by omega), hn.chg.blk h.box (by omega), h.row.chg hn.chg fun k hk ee => (by have := h.row.own k hk; have ee : k = b := ee; omega), hn.at_, h.chg.trans hn.chg fun _ _ h => h⟩
theorem XTk.here {w w1 w2 : World} {b bR bS : Nat} {t : TypeId} {vb v : Value} {need : Int} {ids : List ByteArray} {l : List UInt8} {e : Int} (h : XTk w b bR bS t vb v need ids l e w1) (hb : Below w1.heap.size w1 w2) : XTk w b bR bS t vb v need ids l e w2 :=
  ⟨h.res.below hb h.res.lt, h.box.below hb h.box.lt, h.row.here hb, (chg0 (S := fun _ => False) hb).blk h.at_ fun h => h, h.chg.trans (Pk.Chg.of_below hb) fun i hi e => (by have := h.chg.size; omega)⟩
theorem XTk.push {w w1 w2 : World} {b bR bS : Nat} {t : TypeId} {vb v v' : Value} {need : Int} {ids zs : List ByteArray} {l : List UInt8} {e : Int} (h : XTk w b bR bS t vb v need ids l e w1) (hb : b < w.heap.size) (hp : PushedT w.heap.size w1 v (ids ++ zs) v' w2) : XTk w b bR bS t vb v' need (ids ++ zs) l e w2 :=
  ⟨hp.chg.blk h.res (h.row.apart h.res (by decide)), hp.chg.blk h.box (h.row.apart h.box (by decide)), hp.row, hp.chg.blk h.at_ (fun e => by have := h.row.own b e; omega), h.chg.trans hp.chg fun i hi e => (by have := h.row.own i e; omega)⟩
theorem XTk.store {w w1 : World} {b bR bS : Nat} {t : TypeId} {vb v : Value} {need : Int} {ids : List ByteArray} {l : List UInt8} {e : Int} (h : XTk w b bR bS t vb v need ids l e w1) (hb : b < w.heap.size) (_ : w.heap.size ≤ bR) (h2 : w.heap.size ≤ bS) (h3 : bR ≠ bS) (u : Value) : XTk w b bR bS t u v need ids l e (w1.setCell ⟨bS, 0, none⟩ u) :=
  ⟨h.res.setCell_other _ _ h3, h.box.setCell 0 u, h.row.set h.box (by decide) u, Blk.setCell_other (show Blk w1 _ _ _ from h.at_) _ _ (by simp; omega), h.chg.trans ((Pk.Chg.refl (fun k => k = bS) w1).setCell rfl u) fun i hi ee => (by have ee : i = bS := ee; omega)⟩
theorem XTk.number {w w1 : World} {b bR bS : Nat} {t : TypeId} {vb v : Value} {need : Int} {ids : List ByteArray} {l : List UInt8} {e : Int} (h : XTk w b bR bS t vb v need ids l e w1) (hb : b < w.heap.size) (_ : w.heap.size ≤ bR) (h2 : w.heap.size ≤ bS) (h3 : bR ≠ bS) (n : Int) : XTk w b bR bS t vb v n ids l e (w1.setCell ⟨bS, 1, none⟩ (.int .i64 n)) :=
  ⟨h.res.setCell_other _ _ h3, h.box.setCell 1 _, h.row.set h.box (by decide) _, Blk.setCell_other (show Blk w1 _ _ _ from h.at_) _ _ (by simp; omega), h.chg.trans ((Pk.Chg.refl (fun k => k = bS) w1).setCell rfl _) fun i hi ee => (by have ee : i = bS := ee; omega)⟩
/-- What a Take leaves. -/
structure TkT (w : World) (b : Nat) (t : TypeId) (T : List ByteArray × Int × List UInt8 × Int) (r : Ending) (w' : World) : Prop where
  out : ∃ v, r = .returned (.agg #[v, .int .i64 (needT T)]) ∧ TxR w.heap.size w' v (idsT T)
  at_ : Pk.RAt w' b t T.2.2.1 (errT T)
  chg : Pk.Chg (fun k => k = b) w w'
theorem XTk.fin {w w1 : World} {b bR bS : Nat} {t : TypeId} {vb v : Value} {need : Int} {ids : List ByteArray} {l : List UInt8} {e : Int} (h : XTk w b bR bS t vb v need ids l e w1) (hb : b < w.heap.size) (h1 : w.heap.size ≤ bR) (u0 u1 : Value) :
    Blk ((w1.setCell ⟨bR, 0, none⟩ u0).setCell ⟨bR, 1, none⟩ u1) bR [u0, u1] 24 ∧ TxR w.heap.size ((w1.setCell ⟨bR, 0, none⟩ u0).setCell ⟨bR, 1, none⟩ u1) v ids ∧ Pk.RAt ((w1.setCell ⟨bR, 0, none⟩ u0).setCell ⟨bR, 1, none⟩ u1) b t l e ∧ Pk.Chg (fun k => k = b) w ((w1.setCell ⟨bR, 0, none⟩ u0).setCell ⟨bR, 1, none⟩ u1) := by
  have hne : b ≠ bR := by omega
  have ha : Blk w1 b [.string (Pk.btx l), .int .i64 e] t := h.at_
  exact ⟨(h.res.setCell 0 u0).setCell 1 u1, (h.row.set h.res (by decide) u0).set (h.res.setCell 0 u0) (by decide) u1, (ha.setCell_other _ _ hne).setCell_other _ _ hne,
    h.chg.trans (((Pk.Chg.refl (fun k => k = bR) w1).setCell rfl u0).setCell rfl u1) fun i hi ee => (by have ee : i = bR := ee; omega)⟩
theorem errT_yes {R : List ByteArray} {n : Int} {l : List UInt8} {e : Int} (h : chkB R n = true) : errT (R, n, l, e) = e := by simp [errT, h]
theorem errT_no {R : List ByteArray} {n : Int} {l : List UInt8} {e : Int} (h : chkB R n = false) : errT (R, n, l, e) = Pk.failE e 3 := by simp [errT, h]
theorem failE_ne (e : Int) : Pk.failE e 3 ≠ 0 := by
  unfold Pk.failE
  split
  · decide
  · assumption
/-- .. a text laid ahead. -/
def XTL (w : World) (b bR bS : Nat) (t : TypeId) (v : Value) (ids : List ByteArray) (l : List UInt8) (e : Int) (bq : Nat) (x : ByteArray) : World → Prop := fun w' => XTk w b bR bS t v v 0 ids l e w' ∧ Blk w' bq [.string x] 9
theorem st_eq {B C : World → Prop} (h : ∀ w, C w → B w) : St B (fun w w' => w = w') C := ⟨h, fun _ _ hC e => e ▸ hC⟩
set_option maxHeartbeats 6400000 in
set_option maxRecDepth 100000 in
theorem xtake_any (b : Nat) (l : List UInt8) (e : Int) (w : World) (h : Pk.RAt w b 124 l e) :
    Calls Tryz.prog 51 #[.pointer (some ⟨b, 0, none⟩)] w fun r w' => TkT w b 124 (takeA l e) r w' := by
  have hlt : b < w.heap.size := Pk.Blk.lt h
  obtain ⟨W1, hW1⟩ : ∃ W1, w.alloc (.cells #[.slice none 0 0, .int .i64 0] 24) = W1 := ⟨_, rfl⟩
  have hb1 : Below w.heap.size w W1 := by rw [← hW1]; exact bel_alloc _ _
  have hR1 : Blk W1 w.heap.size [.slice none 0 0, .int .i64 0] 24 := by rw [← hW1]; exact Blk.new w _ _
  obtain ⟨W2, hW2⟩ : ∃ W2, W1.alloc (.cells #[.slice none 0 0, .int .i64 0] 24) = W2 := ⟨_, rfl⟩
  have hb2 : Below W1.heap.size W1 W2 := by rw [← hW2]; exact bel_alloc _ _
  have hS2 : Blk W2 W1.heap.size [.slice none 0 0, .int .i64 0] 24 := by rw [← hW2]; exact Blk.new W1 _ _
  have hR2 := hR1.below hb2 hR1.lt
  have hne : Box (w.heap.size ≠ W1.heap.size) := ⟨by have := hR1.lt; omega⟩
  have hsz : Box (w.heap.size ≤ W1.heap.size) := ⟨hb1.size⟩
  have hA2 : Box (XTk w b w.heap.size W1.heap.size 124 (.slice none 0 0) (.slice none 0 0) 0 [] l e W2) := ⟨⟨hR2, hS2, TxR.nil _ _, (chg0 (S := fun _ => False) (mono_bel hb1 hb2 (Nat.le_refl _))).blk h fun h => h, (Pk.Chg.of_below (mono_bel hb1 hb2 (Nat.le_refl _))).mono fun i hi e => absurd e (by omega)⟩⟩
  have hF := Pk.xnumber_any b l e 1 W2 hA2.out.at_ (by omega)
  obtain ⟨n, hn, hn256⟩ := num1 l e
  have hT : takeA l e = ((rawsR n (Pk.numR 1 l e).2.1 (Pk.numR 1 l e).2.2).1,
   (Pk.numR 1 (rawsR n (Pk.numR 1 l e).2.1 (Pk.numR 1 l e).2.2).2.1 (rawsR n (Pk.numR 1 l e).2.1 (Pk.numR 1 l e).2.2).2.2).1,
   (Pk.numR 1 (rawsR n (Pk.numR 1 l e).2.1 (Pk.numR 1 l e).2.2).2.1 (rawsR n (Pk.numR 1 l e).2.1 (Pk.numR 1 l e).2.2).2.2).2.1,
   (Pk.numR 1 (rawsR n (Pk.numR 1 l e).2.1 (Pk.numR 1 l e).2.2).2.1 (rawsR n (Pk.numR 1 l e).2.1 (Pk.numR 1 l e).2.2).2.2).2.2) := by rw [takeA, hn]; rfl
  rw [hn] at hF
  obtain ⟨m, hm⟩ : ∃ m, (Pk.numR 1 l e).2.1 = m := ⟨_, rfl⟩
  obtain ⟨f, hf⟩ : ∃ f, (Pk.numR 1 l e).2.2 = f := ⟨_, rfl⟩
  rw [hm, hf] at hF hT
  obtain ⟨T, hTe⟩ : ∃ T, takeA l e = T := ⟨_, rfl⟩
  rw [hTe] at hT ⊢
  have hlB := Box.mk hlt
  have hTB := Box.mk hT
  obtain ⟨bR, hbR⟩ : ∃ x, w.heap.size = x := ⟨_, rfl⟩
  obtain ⟨bS, hbS⟩ : ∃ x, W1.heap.size = x := ⟨_, rfl⟩
  have hrs : Box (w.heap.size ≤ bR ∧ w.heap.size ≤ bS ∧ bR ≠ bS) := ⟨by rw [← hbR, ← hbS]; exact ⟨Nat.le_refl _, hsz.out, hne.out⟩⟩
  rw [hbS, show XTk w b w.heap.size bS 124 = XTk w b bR bS 124 by rw [hbR]] at hA2
  clear h hlt hn hm hf hTe hT hb1 hb2 hR1 hR2 hS2 hne hsz
  go_enter Tryz.func51, Tryz.ntmps51
  go_wp2_with fail
  refine hF.mono ?_
  clear hF hW1 hW2 hbS hbR
  rintro r w3 ⟨rfl, h3⟩
  have hA0 : Box (∃ v, XTk w b bR bS 124 v v 0 (rawsR 0 m f).1 (rawsR 0 m f).2.1 (rawsR 0 m f).2.2 w3) := ⟨_, hA2.out.next hlB.out hrs.out.1 hrs.out.2.1 h3⟩
  clear h3 hA2
  go_wp2_with fail
  go_loopw [5] (fun q wr => ∃ i : Nat, i ≤ n ∧ q = .int .i64 (i : Int) ∧ Box (∃ v, XTk w b bR bS 124 v v 0 (rawsR i m f).1 (rawsR i m f).2.1 (rawsR i m f).2.2 wr)) (fun q _ => n - (intOf q).toNat)
  case atStart => exact ⟨0, by omega, rfl, hA0⟩
  case round =>
    clear hA0
    obtain ⟨i, hi, rfl, hA⟩ := hrel
    obtain ⟨v, hA1⟩ := hA.out
    have hrl := rawsR_len i m f
    obtain ⟨av, cv, rfl⟩ := hA1.row.shape
    have hA1B := Box.mk hA1
    rw [hrl] at hA1B
    by_cases hlt : i < n
    · obtain ⟨R, hR⟩ : ∃ R, rawsR i m f = R := ⟨_, rfl⟩
      have hnx : rawsR (i + 1) m f = (R.1 ++ [Pk.btx (Pk.rawR 32 R.2.1 R.2.2).1], (Pk.rawR 32 R.2.1 R.2.2).2.1, (Pk.rawR 32 R.2.1 R.2.2).2.2) := by rw [← hR]; rfl
      rw [hR] at hA1B hrl
      have hF2 := Box.mk fun wz (hz : Pk.RAt wz b 124 R.2.1 R.2.2) => Pk.xraw_any b R.2.1 R.2.2 32 wz hz
      obtain ⟨X, hX⟩ : ∃ X, Pk.rawR 32 R.2.1 R.2.2 = X := ⟨_, rfl⟩
      rw [hX] at hF2 hnx
      obtain ⟨x1, hx1⟩ : ∃ x, Pk.btx X.1 = x := ⟨_, rfl⟩
      rw [hx1] at hF2 hnx
      have hnxB := Box.mk hnx
      have hrlB := Box.mk hrl
      have hii : (i : Int) < (n : Int) := by omega
      clear hA hA1 hR hnx hX hx1 hrl
      go_wp2_with fail
      refine region_steadyC (fun w' => Blk w' bS [.slice av i cv, .int .i64 0] 24) (fun w' => XTk w b bR bS 124 (.slice av i cv) (.slice av i cv) 0 R.1 R.2.1 R.2.2 w') (fun w w' => w = w') rfl (hA1B.out.here (dB wr)) ?_
      refine anyS_calms [0, 1, 2] 5 rfl (fun _ => rfl) (st_eq fun _ h => h.box) (by kernel_rfl) (by kernel_rfl) (by kernel_rfl) ?_
      simp [nth]
      try simp only [Act.put, List.setIfInBounds_toArray, List.set_cons_succ, List.set_cons_zero]
      repeat (go_big_quiet_step (first | exact fun _ => rfl | rfl))
      refine quiet_val rfl (.slice av i cv) (fun w' hw' => by have h3 := hw'.cell 0; simp only [List.getElem?_cons_zero] at h3; go_simp) ?_
      simp only [Act.put, List.setIfInBounds_toArray, List.set_cons_succ, List.set_cons_zero]
      repeat (go_big_quiet_step (first | exact fun _ => rfl | rfl))
      refine wpQuiet_nil ?_
      refine anyS_forced 3 (by kernel_rfl) rfl rfl (fun wa hWa K hK => ?_)
      have hF := hF2.out wa hWa.at_
      go_simp
      refine hF.mono ?_
      clear hF
      rintro r wb ⟨rfl, hb⟩
      refine hK _ _ (fun w' => XTk w b bR bS 124 (.slice av i cv) (.slice av i cv) 0 R.1 X.2.1 X.2.2 w') (st_eq fun _ h => h.box) (hWa.next hlB.out hrs.out.1 hrs.out.2.1 hb) ?_
      clear hK K hWa hb hF2 wa wb hA1B
      refine anyS_forced 4 (by kernel_rfl) rfl rfl (fun wb hWb K hK => ?_)
      obtain ⟨wc, hwc⟩ : ∃ wc, wb.alloc (.cells #[.string x1] 9) = wc := ⟨_, rfl⟩
      have hbc : Below wb.heap.size wb wc := by rw [← hwc]; exact bel_alloc _ _
      have hQ : Blk wc wb.heap.size [.string x1] 9 := by rw [← hwc]; exact Blk.new wb _ _
      have hWc := hWb.here hbc
      obtain ⟨bq, hbq⟩ : ∃ b, wb.heap.size = b := ⟨_, rfl⟩
      rw [hbq] at hQ
      go_simp
      refine hK _ _ (XTL w b bR bS 124 (.slice av i cv) R.1 X.2.1 X.2.2 bq x1) (st_eq fun _ h => h.1.box) ⟨hWc, hQ⟩ ?_
      clear hK K hwc hbc hQ hWc hbq hWb wb wc
      refine anyS_forced 5 (by kernel_rfl) rfl rfl (fun wd hWd K hK => ?_)
      have hz : PartsAt wd (.slice (some ⟨bq, 0, none⟩) 1 1) [x1] := ⟨_, _, rfl, fun _ => ⟨bq, 0, rfl, hWd.2.lt, fun j hj => by
        obtain rfl : j = 0 := by simpa using hj
        exact hWd.2.cell 0⟩⟩
      refine wp_pushT (.tmp 14) (.tmp 17) rfl w.heap.size _ R.1 [x1] rfl hWd.1.row hWd.1.chg.size (some ⟨bq, 0, none⟩) 1 1 rfl rfl hz (by rw [hrlB.out]; omega) ?_
      intro v5 w5 hp5
      obtain ⟨a5, c5, e5⟩ := hp5.row.shape
      subst e5
      have hN5 := hWd.1.push hlB.out hp5
      obtain ⟨N5, hN5e⟩ : ∃ k, (R.1 ++ [x1]).length = k := ⟨_, rfl⟩
      rw [hN5e] at hN5 ⊢
      refine hK _ _ (fun w' => XTk w b bR bS 124 (.slice av i cv) (.slice a5 N5 c5) 0 (R.1 ++ [x1]) X.2.1 X.2.2 w') (st_eq fun _ h => h.box) hN5 ?_
      clear hK K hp5 hN5 hN5e hWd wd w5 hz
      refine anyS_calms [6] 1 rfl (fun _ => rfl) (st_eq fun _ h => h.box) (by kernel_rfl) (by kernel_rfl) (by kernel_rfl) ?_
      simp [nth]
      try simp only [Act.put, List.setIfInBounds_toArray, List.set_cons_succ, List.set_cons_zero]
      repeat (go_big_quiet_step (first | exact fun _ => rfl | rfl))
      refine wpQuiet_nil ?_
      refine anyS_last 7 (by kernel_rfl) rfl rfl (by kernel_rfl) (by kernel_rfl) (fun wd hWd K hK => ?_)
      have q0 := hWd.box.cell 0
      have g0 := hWd.box.free 0
      simp only [List.getElem?_cons_zero] at q0
      have hA7 := hWd.store hlB.out hrs.out.1 hrs.out.2.1 hrs.out.2.2 (.slice a5 N5 c5)
      obtain ⟨w7, hw7⟩ : ∃ w7, wd.setCell ⟨bS, 0, none⟩ (.slice a5 N5 c5) = w7 := ⟨_, rfl⟩
      rw [hw7] at hA7
      have hA8 : Box (∃ v, XTk w b bR bS 124 v v 0 (rawsR (i + 1) m f).1 (rawsR (i + 1) m f).2.1 (rawsR (i + 1) m f).2.2 w7) := ⟨_, by rw [hnxB.out]; exact hA7⟩
      clear hWd hA7
      go_simp
      refine hK _ _ ?_
      clear hK K q0 g0 hw7
      go_wp2_with fail
      exact ⟨⟨i + 1, by omega, by go_num, hA8⟩, by simp [intOf]; omega⟩
    · obtain rfl : i = n := by omega
      obtain ⟨R, hR⟩ : ∃ R, rawsR i m f = R := ⟨_, rfl⟩
      rw [hR] at hA1B hrl hTB
      obtain ⟨N, hN⟩ : ∃ N, Pk.numR 1 R.2.1 R.2.2 = N := ⟨_, rfl⟩
      have hF := Pk.xnumber_any b R.2.1 R.2.2 1 wr hA1B.out.at_ (by omega)
      rw [hN] at hF hTB
      have hRl : Box (R.1.length ≤ maxLen) := ⟨by unfold maxLen; omega⟩
      clear hA hA1 hN hR hrl hi hlt
      go_wp2_with fail
      refine hF.mono ?_
      clear hF
      rintro r w4 ⟨rfl, h4⟩
      have hA4 := hA1B.out.next hlB.out hrs.out.1 hrs.out.2.1 h4
      have q1 := hA4.box.cell 1
      have g1 := hA4.box.free 1
      simp only [List.getElem?_cons_zero, List.getElem?_cons_succ] at q1
      have hA5 := hA4.number hlB.out hrs.out.1 hrs.out.2.1 hrs.out.2.2 N.1
      obtain ⟨w5, hw5⟩ : ∃ w5, w4.setCell ⟨bS, 1, none⟩ (.int .i64 N.1) = w5 := ⟨_, rfl⟩
      rw [hw5] at hA5
      have p0 := hA5.box.cell 0
      have p1 := hA5.box.cell 1
      simp only [List.getElem?_cons_zero, List.getElem?_cons_succ] at p0 p1
      have hF := rcheck_any _ R.1 N.1 w5 hA5.row.parts hRl.out
      have hA5B := Box.mk hA5
      clear hA4 hA5 h4 hA1B
      go_wp2_with fail
      refine hF.mono ?_
      clear hF q1 g1 hw5 p0 p1
      rintro r w6 ⟨rfl, hb6⟩
      have hA6 := Box.mk (hA5B.out.here hb6)
      clear hb6 hA5B
      have hTl : Box (T.2.2.1 = N.2.1) := ⟨by rw [hTB.out]⟩
      cases hg : chkB R.1 N.1 with
      | true =>
        have hce : chkE R.1 N.1 = 0 := by rw [chkE, hg]; rfl
        rw [hce]
        have herr : Box (errT T = N.2.2) := ⟨by rw [hTB.out]; exact errT_yes hg⟩
        clear hce hg
        have e1 : w6.cell? ⟨b, 1, none⟩ = some (.int .i64 N.2.2) := hA6.out.at_.cell 1
        obtain ⟨E, hE⟩ : ∃ E, N.2.2 = E := ⟨_, rfl⟩
        by_cases he : E = 0
        · rw [hE, he] at e1 herr hA6
          have hnd : Box (needT T = N.1) := ⟨by rw [needT, herr.out, if_pos rfl, hTB.out]⟩
          have hids : Box (idsT T = R.1) := ⟨by rw [idsT, herr.out, if_pos rfl, hTB.out]⟩
          clear he hE
          have r0 := hA6.out.res.cell 0
          have r1 := hA6.out.res.cell 1
          have f0 := hA6.out.res.free 0
          have f1 := hA6.out.res.free 1
          have p0 := hA6.out.box.cell 0
          have p1 := hA6.out.box.cell 1
          simp only [List.getElem?_cons_zero, List.getElem?_cons_succ] at r0 r1 p0 p1
          have hfinB := Box.mk (hA6.out.fin hlB.out hrs.out.1 (.slice av i cv) (.int .i64 N.1))
          go_wp2_with fail
          obtain ⟨wz, hwz⟩ : ∃ wz, (w6.setCell ⟨bR, 0, none⟩ (.slice av i cv)).setCell ⟨bR, 1, none⟩ (.int .i64 N.1) = wz := ⟨_, rfl⟩
          rw [hwz] at hfinB ⊢
          have z0 := hfinB.out.1.cell 0
          have z1 := hfinB.out.1.cell 1
          simp only [List.getElem?_cons_zero, List.getElem?_cons_succ] at z0 z1
          exact bodyPost_ret (v := .agg #[.slice av i cv, .int .i64 N.1]) (by simp [results, Tryz.results51, go_sem, z0, z1]) rfl ⟨⟨.slice av i cv, by rw [hnd.out], by rw [hids.out]; exact hfinB.out.2.1⟩, by rw [hTl.out, herr.out]; exact hfinB.out.2.2.1, hfinB.out.2.2.2⟩
        · rw [hE] at e1 herr hA6
          have hnd : Box (needT T = 0) := ⟨by rw [needT, herr.out, if_neg he]⟩
          have hids : Box (idsT T = []) := ⟨by rw [idsT, herr.out, if_neg he]⟩
          have hEn := he
          clear hE he
          have hfin := hA6.out.fin hlB.out hrs.out.1 (.slice none 0 0) (.int .i64 0)
          have r0 := hA6.out.res.cell 0
          have r1 := hA6.out.res.cell 1
          have f0 := hA6.out.res.free 0
          have f1 := hA6.out.res.free 1
          simp only [List.getElem?_cons_zero, List.getElem?_cons_succ] at r0 r1
          have hneE : (E == 0) = false := by simpa using hEn
          have hfinB := Box.mk hfin
          clear hfin hEn
          go_wp2_with fail
          obtain ⟨wz, hwz⟩ : ∃ wz, (w6.setCell ⟨bR, 0, none⟩ (.slice none 0 0)).setCell ⟨bR, 1, none⟩ (.int .i64 0) = wz := ⟨_, rfl⟩
          rw [hwz] at hfinB ⊢
          have z0 := hfinB.out.1.cell 0
          have z1 := hfinB.out.1.cell 1
          simp only [List.getElem?_cons_zero, List.getElem?_cons_succ] at z0 z1
          exact bodyPost_ret (v := .agg #[.slice none 0 0, .int .i64 0]) (by simp [results, Tryz.results51, go_sem, z0, z1]) rfl ⟨⟨.slice none 0 0, by rw [hnd.out], by rw [hids.out]; exact TxR.nil _ _⟩, by rw [hTl.out, herr.out]; exact hfinB.out.2.2.1, hfinB.out.2.2.2⟩
      | false =>
        have hce : chkE R.1 N.1 = 1 := by rw [chkE, hg]; rfl
        rw [hce]
        have herr0 : errT T = Pk.failE N.2.2 3 := by rw [hTB.out]; exact errT_no hg
        have hF := Pk.xfail_any b N.2.1 N.2.2 3 w6 hA6.out.at_
        have hEn := failE_ne N.2.2
        obtain ⟨E, hE⟩ : ∃ E, Pk.failE N.2.2 3 = E := ⟨_, rfl⟩
        rw [hE] at hEn hF herr0
        have herr := Box.mk herr0
        have hnd : Box (needT T = 0) := ⟨by rw [needT, herr.out, if_neg hEn]⟩
        have hids : Box (idsT T = []) := ⟨by rw [idsT, herr.out, if_neg hEn]⟩
        have hEnB := Box.mk hEn
        clear hce hg herr0 hE hEn
        go_wp2_with fail
        refine hF.mono ?_
        clear hF
        rintro r w7 ⟨rfl, h7⟩
        have hA7 := Box.mk (hA6.out.next hlB.out hrs.out.1 hrs.out.2.1 h7)
        have e1 : w7.cell? ⟨b, 1, none⟩ = some (.int .i64 E) := hA7.out.at_.cell 1
        have hEn := hEnB.out
        clear h7 hA6
        have hfin := hA7.out.fin hlB.out hrs.out.1 (.slice none 0 0) (.int .i64 0)
        have r0 := hA7.out.res.cell 0
        have r1 := hA7.out.res.cell 1
        have f0 := hA7.out.res.free 0
        have f1 := hA7.out.res.free 1
        simp only [List.getElem?_cons_zero, List.getElem?_cons_succ] at r0 r1
        have hneE : (E == 0) = false := by simpa using hEn
        have hfinB := Box.mk hfin
        clear hfin hEn
        go_wp2_with fail
        obtain ⟨wz, hwz⟩ : ∃ wz, (w7.setCell ⟨bR, 0, none⟩ (.slice none 0 0)).setCell ⟨bR, 1, none⟩ (.int .i64 0) = wz := ⟨_, rfl⟩
        rw [hwz] at hfinB ⊢
        have z0 := hfinB.out.1.cell 0
        have z1 := hfinB.out.1.cell 1
        simp only [List.getElem?_cons_zero, List.getElem?_cons_succ] at z0 z1
        exact bodyPost_ret (v := .agg #[.slice none 0 0, .int .i64 0]) (by simp [results, Tryz.results51, go_sem, z0, z1]) rfl ⟨⟨.slice none 0 0, by rw [hnd.out], by rw [hids.out]; exact TxR.nil _ _⟩, by rw [hTl.out, herr.out]; exact hfinB.out.2.2.1, hfinB.out.2.2.2⟩
end Go.Proofs.YtiblkfkeifnpaaaGreatDoor

namespace Go.Proofs.YtiblkfkeifnpaaaGreatDoor
open Go Go.RowKit

/-- In the loop: boxes, the row that was made, whatever stands in it, the reader. -/
structure YTk (w : World) (b bR bS g n : Nat) (t : TypeId) (xs : List Value) (l : List UInt8) (e : Int) (w' : World) : Prop where
  res : Blk w' bR [.slice none 0 0, .int .i64 0] 24
  box : Blk w' bS [.slice (some ⟨g, 0, none⟩) n n, .int .i64 0] 24
  tk : TkR w b t 9 1 g n xs l e w'
theorem YTk.next {w w1 w2 : World} {b bR bS g n : Nat} {t : TypeId} {xs : List Value} {l l2 : List UInt8} {e e2 : Int} (h : YTk w b bR bS g n t xs l e w1) (hb : b < w.heap.size) (h1 : w.heap.size ≤ bR) (h2 : w.heap.size ≤ bS) (hn : Pk.RNext w1 b t l2 e2 w2) : YTk w b bR bS g n t xs l2 e2 w2 :=
  ⟨hn.chg.blk h.res (by omega), hn.chg.blk h.box (by omega), h.tk.next hb hn⟩
theorem YTk.put {w w1 : World} {b bR bS g n : Nat} {t : TypeId} {xs : List Value} {l : List UInt8} {e : Int} (h : YTk w b bR bS g n t xs l e w1) (hb : b < w.heap.size) (j : Nat) (u : Value) : YTk w b bR bS g n t (xs.set j u) l e (w1.setCell ⟨g, j, none⟩ u) :=
  ⟨h.res.setCell_other _ _ (fun ee => Pk.Row.apart h.tk.row h.res (by decide) (by rw [show bR = g from ee]; rfl)), h.box.setCell_other _ _ (fun ee => Pk.Row.apart h.tk.row h.box (by decide) (by rw [show bS = g from ee]; rfl)), h.tk.put hb j u⟩
theorem YTk.drew {w w1 : World} {b bR bS g n : Nat} {t : TypeId} {xs : List Value} {l : List UInt8} {e : Int} (h : YTk w b bR bS g n t xs l e w1) : YTk w b bR bS g n t xs l e w1.drew :=
  ⟨h.res.below (dB w1) h.res.lt, h.box.below (dB w1) h.box.lt, ⟨row_here h.tk.row (dB w1), h.tk.own, (chg0 (S := fun _ => False) (dB w1)).blk h.tk.at_ fun h => h, h.tk.chg.drew⟩⟩
theorem YTk.full {w w1 : World} {b bR bS g n : Nat} {t : TypeId} {ids : List ByteArray} {l : List UInt8} {e : Int} (h : YTk w b bR bS g n t (ids.map Value.string) l e w1) (hl : ids.length = n) : XTk w b bR bS t (.slice (some ⟨g, 0, none⟩) n n) (.slice (some ⟨g, 0, none⟩) n n) 0 ids l e w1 :=
  ⟨h.res, h.box, TxR.of_row (by rw [hl]; exact h.tk.row) (fun k hk => by cases hk; exact h.tk.own), h.tk.at_, h.tk.chg⟩
theorem set_one (a r : List Value) (x u : Value) (j : Nat) (hj : a.length = j) : (a ++ (u :: r)).set j x = a ++ [x] ++ r := by
  subst hj
  simp
set_option maxHeartbeats 6400000 in
set_option maxRecDepth 100000 in
theorem take_any (b : Nat) (l : List UInt8) (e : Int) (w : World) (h : Pk.RAt w b 119 l e) :
    Calls Tryz.prog 125 #[.pointer (some ⟨b, 0, none⟩)] w fun r w' => TkT w b 119 (takeA l e) r w' := by
  have hlt : b < w.heap.size := Pk.Blk.lt h
  obtain ⟨W1, hW1⟩ : ∃ W1, w.alloc (.cells #[.slice none 0 0, .int .i64 0] 24) = W1 := ⟨_, rfl⟩
  have hb1 : Below w.heap.size w W1 := by rw [← hW1]; exact bel_alloc _ _
  have hR1 : Blk W1 w.heap.size [.slice none 0 0, .int .i64 0] 24 := by rw [← hW1]; exact Blk.new w _ _
  have hat1 : Pk.RAt W1 b 119 l e := (chg0 (S := fun _ => False) hb1).blk h fun h => h
  have hc1 : Pk.Chg (fun k => k = b) w W1 := (Pk.Chg.of_below hb1).mono fun i hi e => absurd e (by omega)
  obtain ⟨i0, hi0, hz0, hz1, hz2⟩ := info_parts info_s
  have hH := Box.mk (And.intro hi0 (And.intro hz0 (And.intro hz1 hz2)))
  have hF := Pk.rbyte_any b l e W1 hat1
  obtain ⟨n, hn, hn256⟩ := num1 l e
  have hT : takeA l e = ((rawsR n (Pk.numR 1 l e).2.1 (Pk.numR 1 l e).2.2).1,
   (Pk.numR 1 (rawsR n (Pk.numR 1 l e).2.1 (Pk.numR 1 l e).2.2).2.1 (rawsR n (Pk.numR 1 l e).2.1 (Pk.numR 1 l e).2.2).2.2).1,
   (Pk.numR 1 (rawsR n (Pk.numR 1 l e).2.1 (Pk.numR 1 l e).2.2).2.1 (rawsR n (Pk.numR 1 l e).2.1 (Pk.numR 1 l e).2.2).2.2).2.1,
   (Pk.numR 1 (rawsR n (Pk.numR 1 l e).2.1 (Pk.numR 1 l e).2.2).2.1 (rawsR n (Pk.numR 1 l e).2.1 (Pk.numR 1 l e).2.2).2.2).2.2) := by rw [takeA, hn]; rfl
  rw [hn] at hF
  obtain ⟨m, hm⟩ : ∃ m, (Pk.numR 1 l e).2.1 = m := ⟨_, rfl⟩
  obtain ⟨f, hf⟩ : ∃ f, (Pk.numR 1 l e).2.2 = f := ⟨_, rfl⟩
  rw [hm, hf] at hF hT
  obtain ⟨T, hTe⟩ : ∃ T, takeA l e = T := ⟨_, rfl⟩
  rw [hTe] at hT ⊢
  have hlB := Box.mk hlt
  have hTB := Box.mk hT
  obtain ⟨bR, hbR⟩ : ∃ x, w.heap.size = x := ⟨_, rfl⟩
  have hbR1 : Box (w.heap.size ≤ bR) := ⟨by omega⟩
  rw [hbR] at hR1
  have hR1B := Box.mk hR1
  have hc1B := Box.mk hc1
  clear h hlt hn hm hf hTe hT hb1 hat1 hc1 hi0 hz0 hz1 hz2 hR1
  go_enter Tryz.func125, Tryz.ntmps125
  go_wp2_with fail
  refine hF.mono ?_
  clear hF hW1 hbR
  rintro r w1 ⟨rfl, h1⟩
  have hR2 := Box.mk (h1.chg.blk hR1B.out (by have := hbR1.out; have := hlB.out; omega))
  have h1c := Box.mk (hc1B.out.trans h1.chg fun _ _ h => h)
  have h1a := Box.mk h1.at_
  clear h1 hR1B hc1B
  go_wp2_with (at_make; refine wpList_make_full _ rfl (.tmp 6) (.tmp 6) 22 rfl 0 9 i0 (.string ⟨#[]⟩) 1 Tryz.underlying22 hH.out.1 hH.out.2.1 hH.out.2.2.1 .i64 .i64 _ _ n rfl rfl rfl rfl (by rw [hH.out.2.2.2]; omega) (by unfold maxLen; omega) (Nat.zero_le _) ?_; intro w2 hown hg; replace hown := Box.mk hown; replace hg := Box.mk hg)
  have hb2 : Below w1.heap.size w1 w2 := ⟨hg.out.os, hg.out.tape, hg.out.output, hg.out.size, fun k hk => hg.out.block k hk (by simp)⟩
  obtain ⟨W3, hW3⟩ : ∃ W3, w2.alloc (.cells #[.slice (some ⟨w1.heap.size, 0, none⟩) n n, .int .i64 0] 24) = W3 := ⟨_, rfl⟩
  have hb3 : Below w2.heap.size w2 W3 := by rw [← hW3]; exact bel_alloc _ _
  have hS3 : Blk W3 w2.heap.size [.slice (some ⟨w1.heap.size, 0, none⟩) n n, .int .i64 0] 24 := by rw [← hW3]; exact Blk.new w2 _ _
  have hb13 : Below w1.heap.size w1 W3 := mono_bel hb2 hb3 (Nat.le_refl _)
  have hrow3 := row_here (show Pk.Row w2 9 1 (.slice (some ⟨w1.heap.size, 0, none⟩) n n) n _ from hown.out) hb3
  have hxl := hown.out.1
  obtain ⟨xs0, hxs0⟩ : ∃ l, (madeCells (Value.string ⟨#[]⟩).cells (n * 1)).toList = l := ⟨_, rfl⟩
  rw [hxs0] at hrow3 hxl
  have hsz1 := h1c.out.size
  have hRlt : bR < w1.heap.size := (show Blk w1 bR _ _ from hR2.out).lt
  have hsz2 := hb2.size
  have hc3 : Pk.Chg (fun k => k = b) w W3 := h1c.out.trans (Pk.Chg.of_below hb13) fun i hi e => (by omega)
  have hA0 : Box (∃ rest, rest.length = n - 0 ∧ YTk w b bR w2.heap.size w1.heap.size n 119 ((rawsR 0 m f).1.map Value.string ++ rest) (rawsR 0 m f).2.1 (rawsR 0 m f).2.2 W3) := ⟨xs0, by rw [hxl]; omega, ⟨(show Blk w1 bR _ _ from hR2.out).below hb13 hRlt, hS3, ⟨hrow3, hsz1, (chg0 (S := fun _ => False) hb13).blk h1a.out fun h => h, hc3⟩⟩⟩
  rw [hW3]
  have hrs : Box (w.heap.size ≤ bR ∧ w.heap.size ≤ w2.heap.size ∧ bR ≠ w2.heap.size) := ⟨hbR1.out, by omega, by omega⟩
  obtain ⟨g, hge⟩ : ∃ g, w1.heap.size = g := ⟨_, rfl⟩
  obtain ⟨bS, hbS⟩ : ∃ x, w2.heap.size = x := ⟨_, rfl⟩
  rw [hge, hbS] at hA0 ⊢
  rw [hbS] at hrs
  clear hown hg hb2 hW3 hb3 hS3 hb13 hrow3 hxl hxs0 hsz1 hsz2 hRlt hc3 hge hbS hR2 h1c h1a hH hbR1
  go_loopw [4, 12] (fun _ q wr => ∃ i : Nat, i ≤ n ∧ q = .int .i64 (i : Int) ∧ Box (∃ rest, rest.length = n - i ∧ YTk w b bR bS g n 119 ((rawsR i m f).1.map Value.string ++ rest) (rawsR i m f).2.1 (rawsR i m f).2.2 wr)) (fun _ q _ => n - (intOf q).toNat)
  case atStart => exact ⟨0, by omega, rfl, hA0⟩
  case round =>
    clear hA0
    obtain ⟨i, hi, rfl, hA⟩ := hrel
    obtain ⟨rest, hrest, hA1⟩ := hA.out
    have hrl := rawsR_len i m f
    by_cases hlt : i < n
    · obtain ⟨u, rest2, rfl⟩ : ∃ u r2, rest = u :: r2 := by
        match rest, hrest with
        | [], h => simp at h; omega
        | u :: r2, _ => exact ⟨u, r2, rfl⟩
      have hrl2 : Box (rest2.length = n - (i + 1)) := ⟨by simp at hrest; omega⟩
      obtain ⟨R, hR⟩ : ∃ R, rawsR i m f = R := ⟨_, rfl⟩
      have hnx : rawsR (i + 1) m f = (R.1 ++ [Pk.btx (Pk.rawR 32 R.2.1 R.2.2).1], (Pk.rawR 32 R.2.1 R.2.2).2.1, (Pk.rawR 32 R.2.1 R.2.2).2.2) := by rw [← hR]; rfl
      rw [hR] at hA1 hrl
      have hcl : (R.1.map Value.string).length = i := by rw [List.length_map]; exact hrl
      have hg1 : (R.1.map Value.string ++ u :: rest2)[i]? = some u := by rw [List.getElem?_append_right (by omega), hcl]; simp
      have hF2 := Box.mk fun wz (hz : Pk.RAt wz b 119 R.2.1 R.2.2) => Pk.rhash_any b R.2.1 R.2.2 wz hz
      obtain ⟨X, hX⟩ : ∃ X, Pk.rawR 32 R.2.1 R.2.2 = X := ⟨_, rfl⟩
      rw [hX] at hF2 hnx
      obtain ⟨x1, hx1⟩ : ∃ x, Pk.btx X.1 = x := ⟨_, rfl⟩
      rw [hx1] at hF2 hnx
      have hnxB := Box.mk hnx
      have hclB := Box.mk hcl
      have hg1B := Box.mk hg1
      have hA1B := Box.mk hA1
      have hii : (i : Int) < (n : Int) := by omega
      clear hA hA1 hR hnx hX hx1 hrl hrest hcl hg1
      go_wp2_with fail
      refine region_steadyC (fun w' => Blk w' bS [.slice (some ⟨g, 0, none⟩) n n, .int .i64 0] 24) (fun w' => YTk w b bR bS g n 119 (R.1.map Value.string ++ u :: rest2) R.2.1 R.2.2 w') (fun w w' => w = w') rfl hA1B.out.drew ?_
      refine anyS_calms [0, 1, 2, 3] 3 rfl (fun _ => rfl) (st_eq fun _ h => h.box) (by kernel_rfl) (by kernel_rfl) (by kernel_rfl) ?_
      simp [nth]
      try simp only [Act.put, List.setIfInBounds_toArray, List.set_cons_succ, List.set_cons_zero]
      repeat (go_big_quiet_step (first | exact fun _ => rfl | rfl))
      refine quiet_val rfl (.slice (some ⟨g, 0, none⟩) n n) (fun w' hw' => by have h3 := hw'.cell 0; simp only [List.getElem?_cons_zero] at h3; go_simp) ?_
      simp only [Act.put, List.setIfInBounds_toArray, List.set_cons_succ, List.set_cons_zero]
      repeat (go_big_quiet_step (first | exact fun _ => rfl | rfl))
      refine wpQuiet_nil ?_
      refine anyS_forced 4 (by kernel_rfl) rfl rfl (fun wa hWa K hK => ?_)
      have hF := hF2.out wa hWa.tk.at_
      go_simp
      refine hF.mono ?_
      clear hF
      rintro r wb ⟨rfl, hb⟩
      refine hK _ _ (fun w' => YTk w b bR bS g n 119 (R.1.map Value.string ++ u :: rest2) X.2.1 X.2.2 w') (st_eq fun _ h => h.box) (hWa.next hlB.out hrs.out.1 hrs.out.2.1 hb) ?_
      clear hK K hWa hb hF2 wa wb hA1B
      refine anyS_calms [5] 1 rfl (fun _ => rfl) (st_eq fun _ h => h.box) (by kernel_rfl) (by kernel_rfl) (by kernel_rfl) ?_
      simp [nth]
      try simp only [Act.put, List.setIfInBounds_toArray, List.set_cons_succ, List.set_cons_zero]
      repeat (go_big_quiet_step (first | exact fun _ => rfl | rfl))
      refine wpQuiet_nil ?_
      refine anyS_last 6 (by kernel_rfl) rfl rfl (by kernel_rfl) (by kernel_rfl) (fun wd hWd K hK => ?_)
      have q0 := hWd.tk.row.cells _ _ hg1B.out
      have g0 := Row_free hWd.tk.row i
      have hA7 := hWd.put hlB.out i (.string x1)
      rw [set_one _ _ _ _ _ hclB.out] at hA7
      obtain ⟨w7, hw7⟩ : ∃ w7, wd.setCell ⟨g, i, none⟩ (.string x1) = w7 := ⟨_, rfl⟩
      rw [hw7] at hA7
      have hA8 : Box (∃ rest, rest.length = n - (i + 1) ∧ YTk w b bR bS g n 119 ((rawsR (i + 1) m f).1.map Value.string ++ rest) (rawsR (i + 1) m f).2.1 (rawsR (i + 1) m f).2.2 w7) := ⟨rest2, hrl2.out, by rw [hnxB.out, List.map_append]; exact hA7⟩
      clear hWd hA7
      go_simp
      refine hK _ _ ?_
      clear hK K q0 g0 hw7
      go_wp2_with fail
      exact ⟨⟨i + 1, by omega, by go_num, hA8⟩, by simp [intOf]; omega⟩
    · obtain rfl : i = n := by omega
      obtain rfl : rest = [] := List.length_eq_zero_iff.1 (by rw [hrest]; simp)
      rw [List.append_nil] at hA1
      have hA1B := Box.mk (hA1.full hrl)
      obtain ⟨R, hR⟩ : ∃ R, rawsR i m f = R := ⟨_, rfl⟩
      rw [hR] at hA1B hrl hTB
      obtain ⟨N, hN⟩ : ∃ N, Pk.numR 1 R.2.1 R.2.2 = N := ⟨_, rfl⟩
      have hF := Pk.rbyte_any b R.2.1 R.2.2 wr hA1B.out.at_
      rw [hN] at hF hTB
      have hRl : Box (R.1.length ≤ maxLen) := ⟨by unfold maxLen; omega⟩
      clear hA hA1 hN hR hrl hi hlt hrest
      go_wp2_with fail
      refine hF.mono ?_
      clear hF
      rintro r w4 ⟨rfl, h4⟩
      have hA4 := hA1B.out.next hlB.out hrs.out.1 hrs.out.2.1 h4
      have q1 := hA4.box.cell 1
      have g1 := hA4.box.free 1
      simp only [List.getElem?_cons_zero, List.getElem?_cons_succ] at q1
      have hA5 := hA4.number hlB.out hrs.out.1 hrs.out.2.1 hrs.out.2.2 N.1
      obtain ⟨w5, hw5⟩ : ∃ w5, w4.setCell ⟨bS, 1, none⟩ (.int .i64 N.1) = w5 := ⟨_, rfl⟩
      rw [hw5] at hA5
      have p0 := hA5.box.cell 0
      have p1 := hA5.box.cell 1
      simp only [List.getElem?_cons_zero, List.getElem?_cons_succ] at p0 p1
      have hF := check_any _ R.1 N.1 w5 hA5.row.parts hRl.out
      have hA5B := Box.mk hA5
      clear hA4 hA5 h4 hA1B
      go_wp2_with fail
      refine hF.mono ?_
      clear hF q1 g1 hw5 p0 p1
      rintro r w6 ⟨rfl, hb6⟩
      have hA6 := Box.mk (hA5B.out.here hb6)
      clear hb6 hA5B
      have hTl : Box (T.2.2.1 = N.2.1) := ⟨by rw [hTB.out]⟩
      cases hg : chkB R.1 N.1 with
      | true =>
        have hce : chkE R.1 N.1 = 0 := by rw [chkE, hg]; rfl
        rw [hce]
        have herr : Box (errT T = N.2.2) := ⟨by rw [hTB.out]; exact errT_yes hg⟩
        clear hce hg
        have hF := Pk.err_any b N.2.1 N.2.2 w6 hA6.out.at_
        obtain ⟨E, hE⟩ : ∃ E, N.2.2 = E := ⟨_, rfl⟩
        by_cases he : E = 0
        · rw [hE, he] at hF herr hA6
          have hnd : Box (needT T = N.1) := ⟨by rw [needT, herr.out, if_pos rfl, hTB.out]⟩
          have hids : Box (idsT T = R.1) := ⟨by rw [idsT, herr.out, if_pos rfl, hTB.out]⟩
          clear he hE
          have r0 := hA6.out.res.cell 0
          have r1 := hA6.out.res.cell 1
          have f0 := hA6.out.res.free 0
          have f1 := hA6.out.res.free 1
          have p0 := hA6.out.box.cell 0
          have p1 := hA6.out.box.cell 1
          simp only [List.getElem?_cons_zero, List.getElem?_cons_succ] at r0 r1 p0 p1
          have hfinB := Box.mk (hA6.out.fin hlB.out hrs.out.1 (.slice (some ⟨g, 0, none⟩) i i) (.int .i64 N.1))
          go_wp2_with fail
          refine hF.mono ?_
          clear hF
          rintro r w9 ⟨rfl, rfl⟩
          go_wp2_with fail
          obtain ⟨wz, hwz⟩ : ∃ wz, (w6.setCell ⟨bR, 0, none⟩ (.slice (some ⟨g, 0, none⟩) i i)).setCell ⟨bR, 1, none⟩ (.int .i64 N.1) = wz := ⟨_, rfl⟩
          rw [hwz] at hfinB ⊢
          have z0 := hfinB.out.1.cell 0
          have z1 := hfinB.out.1.cell 1
          simp only [List.getElem?_cons_zero, List.getElem?_cons_succ] at z0 z1
          exact bodyPost_ret (v := .agg #[.slice (some ⟨g, 0, none⟩) i i, .int .i64 N.1]) (by simp [results, Tryz.results125, go_sem, z0, z1]) rfl ⟨⟨.slice (some ⟨g, 0, none⟩) i i, by rw [hnd.out], by rw [hids.out]; exact hfinB.out.2.1⟩, by rw [hTl.out, herr.out]; exact hfinB.out.2.2.1, hfinB.out.2.2.2⟩
        · rw [hE] at hF herr hA6
          have hnd : Box (needT T = 0) := ⟨by rw [needT, herr.out, if_neg he]⟩
          have hids : Box (idsT T = []) := ⟨by rw [idsT, herr.out, if_neg he]⟩
          have hEn := he
          clear hE he
          have hfin := hA6.out.fin hlB.out hrs.out.1 (.slice none 0 0) (.int .i64 0)
          have r0 := hA6.out.res.cell 0
          have r1 := hA6.out.res.cell 1
          have f0 := hA6.out.res.free 0
          have f1 := hA6.out.res.free 1
          simp only [List.getElem?_cons_zero, List.getElem?_cons_succ] at r0 r1
          have hneE : (E == 0) = false := by simpa using hEn
          have hfinB := Box.mk hfin
          clear hfin hEn
          go_wp2_with fail
          refine hF.mono ?_
          clear hF
          rintro r w9 ⟨rfl, rfl⟩
          go_wp2_with fail
          obtain ⟨wz, hwz⟩ : ∃ wz, (w6.setCell ⟨bR, 0, none⟩ (.slice none 0 0)).setCell ⟨bR, 1, none⟩ (.int .i64 0) = wz := ⟨_, rfl⟩
          rw [hwz] at hfinB ⊢
          have z0 := hfinB.out.1.cell 0
          have z1 := hfinB.out.1.cell 1
          simp only [List.getElem?_cons_zero, List.getElem?_cons_succ] at z0 z1
          exact bodyPost_ret (v := .agg #[.slice none 0 0, .int .i64 0]) (by simp [results, Tryz.results125, go_sem, z0, z1]) rfl ⟨⟨.slice none 0 0, by rw [hnd.out], by rw [hids.out]; exact TxR.nil _ _⟩, by rw [hTl.out, herr.out]; exact hfinB.out.2.2.1, hfinB.out.2.2.2⟩
      | false =>
        have hce : chkE R.1 N.1 = 1 := by rw [chkE, hg]; rfl
        rw [hce]
        have herr0 : errT T = Pk.failE N.2.2 3 := by rw [hTB.out]; exact errT_no hg
        have hF := Pk.fail_any b N.2.1 N.2.2 3 w6 hA6.out.at_
        have hEn := failE_ne N.2.2
        obtain ⟨E, hE⟩ : ∃ E, Pk.failE N.2.2 3 = E := ⟨_, rfl⟩
        rw [hE] at hEn hF herr0
        have herr := Box.mk herr0
        have hnd : Box (needT T = 0) := ⟨by rw [needT, herr.out, if_neg hEn]⟩
        have hids : Box (idsT T = []) := ⟨by rw [idsT, herr.out, if_neg hEn]⟩
        have hEnB := Box.mk hEn
        clear hce hg herr0 hE hEn
        go_wp2_with fail
        refine hF.mono ?_
        clear hF
        rintro r w7 ⟨rfl, h7⟩
        have hA7 := Box.mk (hA6.out.next hlB.out hrs.out.1 hrs.out.2.1 h7)
        have hF := Pk.err_any b N.2.1 E w7 hA7.out.at_
        have hEn := hEnB.out
        clear h7 hA6
        have hfin := hA7.out.fin hlB.out hrs.out.1 (.slice none 0 0) (.int .i64 0)
        have r0 := hA7.out.res.cell 0
        have r1 := hA7.out.res.cell 1
        have f0 := hA7.out.res.free 0
        have f1 := hA7.out.res.free 1
        simp only [List.getElem?_cons_zero, List.getElem?_cons_succ] at r0 r1
        have hneE : (E == 0) = false := by simpa using hEn
        have hfinB := Box.mk hfin
        clear hfin hEn
        go_wp2_with fail
        refine hF.mono ?_
        clear hF
        rintro r w9 ⟨rfl, rfl⟩
        go_wp2_with fail
        obtain ⟨wz, hwz⟩ : ∃ wz, (w7.setCell ⟨bR, 0, none⟩ (.slice none 0 0)).setCell ⟨bR, 1, none⟩ (.int .i64 0) = wz := ⟨_, rfl⟩
        rw [hwz] at hfinB ⊢
        have z0 := hfinB.out.1.cell 0
        have z1 := hfinB.out.1.cell 1
        simp only [List.getElem?_cons_zero, List.getElem?_cons_succ] at z0 z1
        exact bodyPost_ret (v := .agg #[.slice none 0 0, .int .i64 0]) (by simp [results, Tryz.results125, go_sem, z0, z1]) rfl ⟨⟨.slice none 0 0, by rw [hnd.out], by rw [hids.out]; exact TxR.nil _ _⟩, by rw [hTl.out, herr.out]; exact hfinB.out.2.2.1, hfinB.out.2.2.2⟩
end Go.Proofs.YtiblkfkeifnpaaaGreatDoor

namespace Go.Proofs.YtiblkfkeifnpaaaGreatDoor
open Go Go.RowKit

set_option maxRecDepth 100000 in
theorem neq_sig (a b : ByteArray) (w : World) : (binOp .neq 59 (.agg #[.string a, .string b]) (.agg #[.string a, .string b])).run Tryz.prog w = .ok (.bool false) w := by
  have hS : Tryz.prog.underlying 59 = some (.struct (Tryz.prog.fieldsOf 59)) := by kernel_rfl
  have hp : Tryz.prog.stoodInHeld 59 = false := by kernel_rfl
  have u9 := Tryz.underlying9
  rw [run_neq_struct, show (10000 : Nat) = 9999 + 1 from rfl, run_equalIn_agg w 9999 59 _ _ hS hp]
  simp only [Program.fieldsOf, Tryz.underlying59]
  go_simp
set_option maxRecDepth 100000 in
theorem guard_sig (x y : Operand) (xs ys : Array Value) (w : World) : (eqGuard .neq 59 x y (.agg xs) (.agg ys)).run Tryz.prog w = .ok () w :=
  run_eqGuard_agg w .neq 59 x y xs ys (by kernel_rfl)
set_option maxHeartbeats 1600000 in
set_option maxRecDepth 100000 in
theorem samesigs_any (a b : Option Addr) (n c d : Nat) (sg : List (ByteArray × ByteArray)) (w : World) (hv : SigsAt w (.slice a n c) sg) (hu : SigsAt w (.slice b n d) sg) (hn : sg.length = n) (hm : n ≤ maxLen) :
    Calls Tryz.prog 21 #[.slice a n c, .slice b n d] w fun e w' => e = .returned (.bool true) ∧ Below w.heap.size w w' := by
  have hq := neq_sig
  have hgd := guard_sig
  have hvB := Box.mk hv
  have huB := Box.mk hu
  have hnB := Box.mk hn
  have hB0 : Box (Below w.heap.size w w) := ⟨Below.refl _ _⟩
  unfold maxLen at hm
  clear hv hu hn
  go_enter Tryz.func21, Tryz.ntmps21
  go_wp2_with fail
  go_loopw [5] (fun q wr => ∃ i : Nat, i ≤ n ∧ q = .int .i64 (i : Int) ∧ Box (Below w.heap.size w wr)) (fun q _ => n - (intOf q).toNat)
  case atStart => exact ⟨0, by omega, rfl, hB0⟩
  case round =>
    clear hB0
    obtain ⟨i, hi, rfl, hB⟩ := hrel
    by_cases hlt : i < n
    · have hig : i < sg.length := by rw [hnB.out]; exact hlt
      obtain ⟨b1, o1, rfl, k0, k1⟩ := (hvB.out.here hB.out).at i hig
      obtain ⟨b2, o2, rfl, j0, j1⟩ := (huB.out.here hB.out).at i hig
      obtain ⟨x, hx⟩ : ∃ x, sg.getD i default = x := ⟨_, rfl⟩
      rw [hx] at k0 k1 j0 j1
      obtain ⟨x1, x2⟩ := x
      simp only at k0 k1 j0 j1
      have hii : (i : Int) < (n : Int) := by omega
      clear hx hig
      go_wp2_with fail
      go_quiet (fail)
      have hB2 : Box (Below w.heap.size w (wr.drewN nq)) := ⟨hB.out.trans (Drawn.below ⟨nq, rfl⟩)⟩
      clear hB k0 k1 j0 j1
      go_wp2_with fail
      exact ⟨⟨i + 1, by omega, by go_num, hB2⟩, by simp [intOf]; omega⟩
    · obtain rfl : i = n := by omega
      go_wp2_with fail
      go_ret
      exact ⟨rfl, hB.out⟩
end Go.Proofs.YtiblkfkeifnpaaaGreatDoor

namespace Go.Proofs.YtiblkfkeifnpaaaGreatDoor
open Go

section
variable {P : Program} {ops : Array Oper} {md : Region.Mode} {B : World → Prop} {R : World → World → Prop}
end
end Go.Proofs.YtiblkfkeifnpaaaGreatDoor

namespace Go.Proofs.YtiblkfkeifnpaaaGreatDoor
open Go Go.ChangeShapes Go.WideShapes Go.ChangeAt Go.RowKit Go.ChangeMaps

set_option maxRecDepth 100000 in
theorem sig_cells {H : Type} {enc : TypeId × Value → H} {w : World} {base : Nat} {spare : Nat → Bool} {held : Bool} {fuel : Nat} {cs : List Value} {x : DataW H × List MemPlace}
    (h : DataW.trod enc Tryz.prog w base spare held fuel 59 cs = some x) : ∃ r : ByteArray × ByteArray, cs = sigC r := by
  obtain ⟨xs, m, _, hx, hl, hn, hF⟩ := DataW.trod_struct Tryz.underlying59 h
  rw [show Tryz.prog.cellsOf 59 = 2 by kernel_rfl] at hl
  match cs, hl, xs, hn with
  | [c0, c1], _, [x0, x1], _ =>
    have g0 : DataW.trod enc Tryz.prog w base spare held m 9 (([c0, c1].drop 0).take (Tryz.prog.cellsOf 9)) = some x0 := hF 0 _ rfl
    have g1 : DataW.trod enc Tryz.prog w base spare held m 9 (([c0, c1].drop 1).take (Tryz.prog.cellsOf 9)) = some x1 := hF 1 _ rfl
    have z9 : Tryz.prog.cellsOf 9 = 1 := by kernel_rfl
    rw [z9] at g0 g1
    obtain ⟨s0, e0, y0, w0⟩ := DataW.trod_string Tryz.underlying9 g0
    obtain ⟨s1, e1, y1, w1⟩ := DataW.trod_string Tryz.underlying9 g1
    simp [List.take, List.drop] at e0 e1
    subst e0 e1
    exact ⟨(s0, s1), rfl⟩
set_option maxRecDepth 100000 in
theorem sigs_open {H : Type} {enc : TypeId × Value → H} {W : World} {base : Nat} {v : Value} {d : DataW H} {p : List MemPlace}
    (hv : Value.okWide Tryz.prog W .any base 46 v) (h : DataW.Trod enc Tryz.prog W 0 (fun _ => true) true 46 v d p) :
    ∃ (a : Option Addr) (L cap : Nat) (sg : List (ByteArray × ByteArray)), v = .slice a L cap ∧ SigsAt W (.slice a L cap) sg ∧ sg.length = L ∧ L ≤ cap ∧ cap ≤ maxLen ∧ (a = none → cap = 0) := by
  obtain ⟨a0, l0, c0, rfl⟩ := okWide_slice Tryz.underlying46 hv
  obtain ⟨fuel, hf⟩ := h
  rcases Deep.open_slice Tryz.underlying46 hf with ⟨hcs, hx⟩ | ⟨a, len, cap, m, n, D, Pl, hcs, hb, hl, hm, hmm, hde, hx⟩
  · simp [Value.cells] at hcs
    obtain ⟨rfl, rfl, rfl⟩ := hcs
    exact ⟨none, 0, 0, [], rfl, ⟨none, 0, rfl, fun h => absurd h (Nat.lt_irrefl 0)⟩, rfl, Nat.le_refl _, Nat.zero_le _, fun _ => rfl⟩
  · simp [Value.cells] at hcs
    obtain ⟨rfl, rfl, rfl⟩ := hcs
    simp only [if_true] at hmm
    have z31 : Tryz.prog.cellsOf 59 = 2 := by kernel_rfl
    have each : ∀ i, i < l0 → ∃ r : ByteArray × ByteArray, ∀ j u, (sigC r)[j]? = some u → W.cell? (a.add (i * 2 + j)) = some u := by
      intro i hi
      obtain ⟨cs', h1, h2⟩ := hx i (by omega)
      rw [z31] at h1
      obtain ⟨_, hlen, hcell⟩ := World.cells?_some h1
      obtain ⟨r, rfl⟩ := sig_cells h2
      refine ⟨r, fun j u hu => ?_⟩
      have hj : j < 2 := (List.getElem?_eq_some_iff.1 hu).1
      have e0 := hcell j (by omega)
      rw [Deep.add_add, hu] at e0
      exact e0
    obtain ⟨sg, hbl, hbs⟩ := choose_list l0 each
    refine ⟨some a, l0, c0, sg, rfl, ⟨some a, c0, by rw [hbl], fun h0 => ?_⟩, hbl, hl, hm, fun e => (by cases e)⟩
    rw [hbl] at h0
    have hc0 := hbs 0 h0 0 _ rfl
    rw [Nat.zero_mul] at hc0
    obtain ⟨blk, off, spot⟩ := a
    have hspot : spot = none := by simpa [Addr.add] using World.cell?_spot hc0
    subst hspot
    have hadd : ∀ j, (⟨blk, off, none⟩ : Addr).add j = ⟨blk, off + j, none⟩ := fun j => by
      unfold Addr.add
      split
      · next h => subst h; rfl
      · rfl
    refine ⟨blk, off, rfl, by simpa [Addr.add] using World.block_lt_of_cell? W _ hc0, fun i hi => ?_⟩
    rw [hbl] at hi
    have e0 := hbs i hi 0 _ rfl
    have e1 := hbs i hi 1 _ rfl
    rw [hadd] at e0 e1
    exact ⟨e0, by rw [Nat.add_assoc]; exact e1⟩
end Go.Proofs.YtiblkfkeifnpaaaGreatDoor

namespace Go.Proofs.YtiblkfkeifnpaaaGreatDoor
open Go Go.ChangeShapes Go.WideShapes Go.ChangeAt Go.RowKit Go.ChangeMaps

end Go.Proofs.YtiblkfkeifnpaaaGreatDoor
