/- A log on lists: its leaves' bytes, the count of used numbers, what a commit of one name does, what each call answers and leaves. -/
import Derived.Test.YthpfpkikmaiddaaGreatDoorGck
import Derived.Test.YthpfpkikmaiddaaGreatDoorGtr
import Derived.Test.YthpfpkikmaiddaaGreatDoorGnj
import Derived.Test.YthpfpkikmaiddaaGreatDoorGre
set_option linter.all false
set_option linter.unusedVariables false
set_option linter.unusedSimpArgs false
namespace Go.Proofs.YthpfpkikmaiddaaGreatDoor.Tg
open Go Go.RowKit Go.Proofs.YthpfpkikmaiddaaGreatDoor.Pk Go.Proofs.YthpfpkikmaiddaaGreatDoor.Nt

/-! ### The names of a region -/
def nLv : Bs := [108, 101, 97, 118, 101, 115]
def nUs : Bs := [117, 115, 101, 100]
def nNo : Bs := [110, 111, 116, 101]
def ctB (c : Ct) (n : Bs) : Bs := (getC c n).getD []
def ctT (c : Ct) (n : Bs) : ByteArray := btx (ctB c n)
theorem ct_len {c : Ct} (h : c.ok) (n : Bs) : (ctB c n).length ≤ 65535 := by
  unfold ctB
  cases hg : getC c n with
  | none => simp
  | some t => exact (h.each _ (getC_some_mem hg)).2.2

/-! ### Leaves as bytes -/
def lvB (l : List ByteArray) : Bs := l.flatMap fun x => txL x.data.toList
theorem lvB_append (a b : List ByteArray) : lvB (a ++ b) = lvB a ++ lvB b := by simp [lvB]
theorem lvB_one (x : ByteArray) : lvB [x] = Pk.textL x := by simp [lvB, txL, Pk.textL]
theorem lvB_snoc (a : List ByteArray) (x : ByteArray) : lvB (a ++ [x]) = lvB a ++ Pk.textL x := by rw [lvB_append, lvB_one]
theorem textL_len (x : ByteArray) : (Pk.textL x).length = 2 + x.size := by simp [Pk.textL, Pk.beN_length]
theorem lvB_snoc_len (a : List ByteArray) (x : ByteArray) : (lvB (a ++ [x])).length = (lvB a).length + 2 + x.size := by rw [lvB_snoc, List.length_append, textL_len]; omega
theorem lvB_take (l : List ByteArray) (i : Nat) (h : i < l.length) : lvB (l.take (i + 1)) = lvB (l.take i) ++ Pk.textL (l.getD i ByteArray.empty) := by
  rw [List.take_add_one, List.getElem?_eq_getElem h, List.getD_eq_getElem?_getD, List.getElem?_eq_getElem h]
  exact lvB_snoc _ _
theorem lvB_take_le (l : List ByteArray) (i : Nat) : (lvB (l.take i)).length ≤ (lvB l).length := by
  conv => rhs; rw [← List.take_append_drop i l]
  rw [lvB_append, List.length_append]; omega
theorem lvB_len2 (l : List ByteArray) : 2 * l.length ≤ (lvB l).length := by
  induction l with
  | nil => simp [lvB]
  | cons x r ih =>
    have : lvB (x :: r) = txL x.data.toList ++ lvB r := rfl
    rw [this, List.length_append, txL_length, List.length_cons]; omega
/-- Texts, one behind the other, read. -/
def spG : Nat → Bs → Int → List ByteArray → List ByteArray × Int
  | 0, _, e, out => (out, e)
  | f + 1, l, e, out => if l ≠ [] ∧ e = 0 then spG f (textR 1024 l e).2.1 (textR 1024 l e).2.2 (out ++ [btx (textR 1024 l e).1]) else (out, e)
def spR (s : Bs) : List ByteArray × Int := spG (s.length + 1) s 0 []
def spL (s : Bs) : Option (List ByteArray) := if (spR s).2 = 0 ∧ (spR s).1.length ≤ 1024 then some (spR s).1 else none
theorem textR_1024 (l : Bs) : textR 1024 l 0 = if l.length < 2 then ([], l, 2) else if (1024 : Int) < (numL (l.take 2) : Int) then ([], l, 4) else if l.length < 2 + numL (l.take 2) then ([], l, 2) else ((l.take (2 + numL (l.take 2))).drop 2, l.drop (2 + numL (l.take 2)), 0) := by
  unfold textR
  rw [if_neg (by decide), show (if (1024 : Int) < 0 then (0 : Int) else 1024) = 1024 from rfl]
theorem textR_cases (l : Bs) : ((textR 1024 l 0).2.2 ≠ 0 ∧ (textR 1024 l 0).2.1 = l ∧ (textR 1024 l 0).1 = []) ∨ ((textR 1024 l 0).2.2 = 0 ∧ l = txL (textR 1024 l 0).1 ++ (textR 1024 l 0).2.1 ∧ (textR 1024 l 0).1.length ≤ 1024) := by
  rw [textR_1024]
  by_cases h2 : l.length < 2
  · rw [if_pos h2]; exact .inl ⟨by simp, rfl, rfl⟩
  · rw [if_neg h2]
    by_cases hm : (1024 : Int) < (numL (l.take 2) : Int)
    · rw [if_pos hm]; exact .inl ⟨by simp, rfl, rfl⟩
    · rw [if_neg hm]
      by_cases hs : l.length < 2 + numL (l.take 2)
      · rw [if_pos hs]; exact .inl ⟨by simp, rfl, rfl⟩
      · rw [if_neg hs]
        have hl : ((l.take (2 + numL (l.take 2))).drop 2).length = numL (l.take 2) := by rw [List.length_drop, List.length_take]; omega
        refine .inr ⟨rfl, ?_, by show ((l.take (2 + numL (l.take 2))).drop 2).length ≤ 1024; omega⟩
        show l = txL ((l.take (2 + numL (l.take 2))).drop 2) ++ l.drop (2 + numL (l.take 2))
        unfold txL
        rw [hl]
        have hb : Pk.beN (numL (l.take 2)) 2 = l.take 2 := by
          refine numL_inj (by rw [Pk.beN_length, List.length_take]; omega) ?_
          rw [numL_beN]
          have := numL_lt 2 (l.take 2) (by rw [List.length_take]; omega)
          exact Nat.mod_eq_of_lt this
        rw [hb]
        have h3 : l.take 2 ++ (l.take (2 + numL (l.take 2))).drop 2 = l.take (2 + numL (l.take 2)) := by
          rw [List.drop_take, Nat.add_sub_cancel_left]
          conv => rhs; rw [List.take_add]
        rw [h3, List.take_append_drop]
/-- Where a reading stands: of the whole, with fuel enough. -/
structure SpAt (s : Bs) (l : Bs) (e : Int) (out : List ByteArray) : Prop where
  go : ∀ f, l.length < f → spG f l e out = spR s
  each : ∀ x ∈ out, x.size ≤ 1024
  flat : e = 0 → s = lvB out ++ l
  cnt : 2 * out.length + l.length ≤ s.length + 2
theorem spG_more : ∀ (f g : Nat) (l : Bs) (e : Int) (out : List ByteArray), l.length < f → l.length < g → spG f l e out = spG g l e out
  | 0, _, l, _, _, h, _ => by omega
  | _ + 1, 0, l, _, _, _, h => by omega
  | f + 1, g + 1, l, e, out, hf, hg => by
    unfold spG
    split
    · next h =>
      obtain ⟨hl, rfl⟩ := h
      rcases textR_cases l with ⟨h1, h2, h2e⟩ | ⟨h1, h2, h3⟩
      · -- the error stops both
        cases f with
        | zero =>
          have : l = [] := List.length_eq_zero_iff.1 (by omega)
          exact absurd this hl
        | succ f =>
          cases g with
          | zero =>
            have : l = [] := List.length_eq_zero_iff.1 (by omega)
            exact absurd this hl
          | succ g =>
            unfold spG
            rw [if_neg (fun h => h1 h.2), if_neg (fun h => h1 h.2)]
      · have hlen := congrArg List.length h2
        rw [List.length_append, txL_length] at hlen
        exact spG_more f g _ _ _ (by omega) (by omega)
    · rfl
theorem SpAt.start (s : Bs) : SpAt s s 0 [] :=
  ⟨fun f hf => spG_more _ _ _ _ _ hf (Nat.lt_succ_self _), by simp, fun _ => by simp [lvB], by simp⟩
theorem SpAt.next {s l : Bs} {out : List ByteArray} (h : SpAt s l 0 out) (hl : l ≠ []) : SpAt s (textR 1024 l 0).2.1 (textR 1024 l 0).2.2 (out ++ [btx (textR 1024 l 0).1]) := by
  have hlp : 0 < l.length := List.length_pos_iff.2 hl
  rcases textR_cases l with ⟨h1, h2, h2e⟩ | ⟨h1, h2, h3⟩
  · refine ⟨fun f hf => ?_, fun x hx => ?_, fun h => absurd h h1, ?_⟩
    · rw [← h.go (l.length + 2) (by omega)]
      conv => rhs; unfold spG
      rw [if_pos ⟨hl, rfl⟩]
      exact spG_more _ _ _ _ _ hf (by rw [h2]; omega)
    · rcases List.mem_append.1 hx with hx | hx
      · exact h.each x hx
      · have h5 := h2e
        rw [List.mem_singleton.1 hx, h5]; decide
    · have h5 := h.cnt
      have h6 : (textR 1024 l 0).2.1 = l := h2
      have hx := h.flat rfl
      have hy := congrArg List.length hx
      rw [List.length_append] at hy
      have hz := lvB_len2 out
      rw [h6, List.length_append, List.length_singleton]; omega
  · have hlen := congrArg List.length h2
    rw [List.length_append, txL_length] at hlen
    refine ⟨fun f hf => ?_, fun x hx => ?_, fun _ => ?_, ?_⟩
    · rw [← h.go (l.length + 1) (by omega)]
      conv => rhs; unfold spG
      rw [if_pos ⟨hl, rfl⟩]
      exact spG_more _ _ _ _ _ hf (by omega)
    · rcases List.mem_append.1 hx with hx | hx
      · exact h.each x hx
      · rw [List.mem_singleton.1 hx, mk_size]; exact h3
    · have := h.flat rfl
      rw [this, lvB_append, lvB_one]
      have e1 : Pk.textL (btx (textR 1024 l 0).1) = txL (textR 1024 l 0).1 := by
        unfold Pk.textL txL
        rw [mk_size, mk_list]
      rw [e1, List.append_assoc, ← h2]
    · have := h.cnt
      rw [List.length_append, List.length_singleton]; omega
theorem SpAt.done {s l : Bs} {e : Int} {out : List ByteArray} (h : SpAt s l e out) (hl : ¬ (l ≠ [] ∧ e = 0)) : spR s = (out, e) := by
  rw [← h.go (l.length + 1) (by omega)]
  unfold spG
  rw [if_neg hl]
theorem SpAt.out_len {s l : Bs} {e : Int} {out : List ByteArray} (h : SpAt s l e out) : out.length ≤ s.length + 2 := by have := h.cnt; omega
theorem spG_back : ∀ (ls : List ByteArray) (f : Nat) (out : List ByteArray), (∀ x ∈ ls, x.size ≤ 1024) → (lvB ls).length < f → spG f (lvB ls) 0 out = (out ++ ls, 0)
  | [], f, out, _, h => by
    cases f with
    | zero => simp [lvB] at h
    | succ f => unfold spG; rw [if_neg (by simp [lvB])]; simp
  | x :: r, f, out, hx, h => by
    have e0 : lvB (x :: r) = txL x.data.toList ++ lvB r := rfl
    cases f with
    | zero => omega
    | succ f =>
      have hxs := hx x (List.mem_cons_self)
      have hb := textR_back 1024 x.data.toList (lvB r) (by rw [Pk.data_len]; omega) (by rw [Pk.data_len]; omega)
      unfold spG
      rw [e0, hb, if_pos ⟨by intro h; have := congrArg List.length h; rw [List.length_append, txL_length, List.length_nil] at this; omega, rfl⟩, mk_data]
      rw [e0, List.length_append, txL_length] at h
      rw [spG_back r f _ (fun y hy => hx y (List.mem_cons_of_mem _ hy)) (by omega)]
      simp
theorem spL_back (ls : List ByteArray) (h : ∀ x ∈ ls, x.size ≤ 1024) (hl : ls.length ≤ 1024) : spL (lvB ls) = some ls := by
  have : spR (lvB ls) = (ls, 0) := by unfold spR; rw [spG_back ls _ _ h (Nat.lt_succ_self _)]; rfl
  unfold spL
  rw [this, if_pos ⟨rfl, hl⟩]
theorem spAt_run : ∀ (f : Nat) (s l : Bs) (e : Int) (out : List ByteArray), l.length < f → SpAt s l e out → ∃ l' e' out', SpAt s l' e' out' ∧ ¬ (l' ≠ [] ∧ e' = 0)
  | 0, _, l, _, _, h, _ => by omega
  | f + 1, s, l, e, out, h, k => by
    by_cases hc : l ≠ [] ∧ e = 0
    · obtain ⟨hl, rfl⟩ := hc
      have k2 := k.next hl
      rcases textR_cases l with ⟨h1, h2, h2e⟩ | ⟨h1, h2, h3⟩
      · exact ⟨_, _, _, k2, fun h => h1 h.2⟩
      · have hlen := congrArg List.length h2
        rw [List.length_append, txL_length] at hlen
        exact spAt_run f s _ _ _ (by omega) k2
    · exact ⟨l, e, out, k, hc⟩
/-- What is read of a region's leaves: each fits, their bytes are the text. -/
theorem spL_some {s : Bs} {ls : List ByteArray} (h : spL s = some ls) : (∀ x ∈ ls, x.size ≤ 1024) ∧ ls.length ≤ 1024 ∧ lvB ls = s := by
  obtain ⟨l, e, out, k, hc⟩ := spAt_run (s.length + 1) s s 0 [] (Nat.lt_succ_self _) (SpAt.start s)
  have hd := k.done hc
  unfold spL at h
  rw [hd] at h
  split at h
  · next h2 =>
    obtain ⟨h2, h3⟩ := h2
    cases h
    have h4 : e = 0 := h2
    subst h4
    have hl : l = [] := Classical.byContradiction fun hl => hc ⟨hl, rfl⟩
    have := k.flat rfl
    rw [hl, List.append_nil] at this
    exact ⟨k.each, h3, this.symm⟩
  · cases h

/-! ### The count of used numbers -/
def usI (c : Ct) : Int := match getC c nUs with
  | none => 0
  | some s => (numR 4 s 0).1
def usK (c : Ct) : Bool := match getC c nUs with
  | none => true
  | some s => decide (endE (numR 4 s 0).2.1 (numR 4 s 0).2.2 = 0)
def usB (n : Nat) : Bs := Pk.beN n 4
theorem us_back {c : Ct} {n : Nat} (h : getC c nUs = some (usB n)) (hn : n < 256 ^ 4) : usI c = (n : Int) ∧ usK c = true := by
  have := numR_back 4 n [] hn (by have : (256 : Nat) ^ 4 = 4294967296 := by decide
                                  omega)
  unfold usI usK
  rw [h]
  simp only [List.append_nil] at this
  simp only [usB, this]
  exact ⟨trivial, by simp [endE]⟩
theorem us_none {c : Ct} (h : getC c nUs = none) : usI c = 0 ∧ usK c = true := by unfold usI usK; rw [h]; exact ⟨rfl, rfl⟩

/-! ### A name, and a commit -/
def pcE (b h : Nat) (D : Dev) (C : CellM) (n t : Bs) : Int := if putE C.now n t = 0 then commitE b h D { C with now := putM C.now n t } else putE C.now n t
def pcD (b h : Nat) (D : Dev) (C : CellM) (n t : Bs) : Dev := if putE C.now n t = 0 then commitD b h D { C with now := putM C.now n t } else D
def pcC (b h : Nat) (D : Dev) (C : CellM) (n t : Bs) : CellM :=
  if putE C.now n t = 0 then
    if commitE b h D { C with now := putM C.now n t } = 0 then commitC b h D { C with now := putM C.now n t }
    else { commitC b h D { C with now := putM C.now n t } with now := (commitC b h D { C with now := putM C.now n t }).was }
  else { C with now := C.was }

/-! ### A log -/
structure LogM where
  C : CellM
  u : Nat
  lv : List ByteArray
  pd : List ByteArray
structure Cfg where
  o : ByteArray
  s : ByteArray
  h : Nat
structure LogM.ok (L : LogM) (c : Cfg) : Prop where
  each : ∀ x ∈ L.lv ++ L.pd, x.size ≤ 1024
  few : L.lv.length + L.pd.length ≤ 1024
  fit : (lvB (L.lv ++ L.pd)).length ≤ 65535
  u : L.u ≤ 2 ^ c.h
structure Cfg.ok (c : Cfg) : Prop where
  o : gO c.o.data.toList = true
  h : c.h ≤ 4
  s : c.s.size ≤ 140737488351232
/-- The note that stands in a content. -/
def noT (c : Ct) : ByteArray := ctT c nNo
/-- Is the last note's checkpoint of that size? -/
def isB (c : Ct) (n : Nat) : Bool := match pCk (rdT (noT c)).data.toList with
  | some k => decide (k.n = (n : Int))
  | none => false
def addE (L : LogM) (x : ByteArray) : Int := if 1024 < x.size then 4 else if 1024 ≤ L.lv.length + L.pd.length ∨ 65535 < (lvB (L.lv ++ L.pd)).length + 2 + x.size then 6 else 0
def addM (L : LogM) (x : ByteArray) : LogM := if addE L x = 0 then { L with pd := L.pd ++ [x] } else L
theorem addE_zero {L : LogM} {x : ByteArray} (h : addE L x = 0) : x.size ≤ 1024 ∧ L.lv.length + L.pd.length < 1024 ∧ (lvB (L.lv ++ L.pd)).length + 2 + x.size ≤ 65535 := by
  unfold addE at h
  split at h
  · cases h
  · split at h
    · cases h
    · omega
theorem addM_ok {L : LogM} {c : Cfg} (h : L.ok c) (x : ByteArray) : (addM L x).ok c := by
  unfold addM
  split
  · next he =>
    obtain ⟨h1, h2, h3⟩ := addE_zero he
    refine ⟨fun y hy => ?_, ?_, ?_, h.u⟩
    · have hy : y ∈ L.lv ++ (L.pd ++ [x]) := hy
      rw [← List.append_assoc] at hy
      rcases List.mem_append.1 hy with hy | hy
      · exact h.each y hy
      · rw [List.mem_singleton.1 hy]; exact h1
    · show L.lv.length + (L.pd ++ [x]).length ≤ 1024
      rw [List.length_append, List.length_singleton]; omega
    · show (lvB (L.lv ++ (L.pd ++ [x]))).length ≤ 65535
      rw [← List.append_assoc, lvB_snoc_len]; omega
  · exact h
section
variable (b h : Nat) (D : Dev) (L : LogM) (c : Cfg)
def seqE : Int := if L.pd = [] then 0 else pcE b h D L.C nLv (lvB (L.lv ++ L.pd))
def seqN : Nat := if L.pd = [] then L.lv.length else if pcE b h D L.C nLv (lvB (L.lv ++ L.pd)) = 0 then (L.lv ++ L.pd).length else 0
def seqD : Dev := if L.pd = [] then D else pcD b h D L.C nLv (lvB (L.lv ++ L.pd))
def seqM : LogM := if L.pd = [] then L else
  if pcE b h D L.C nLv (lvB (L.lv ++ L.pd)) = 0 then { L with C := pcC b h D L.C nLv (lvB (L.lv ++ L.pd)), lv := L.lv ++ L.pd, pd := [] }
  else { L with C := pcC b h D L.C nLv (lvB (L.lv ++ L.pd)) }
/-- The checkpoint of all leaves that have places, its text, the note of it. -/
def ckOf : Ck := ⟨c.o, (L.lv.length : Int), rootL (L.lv.map leafH)⟩
def ptT : ByteArray := ckT (ckOf L c)
def sgOf : List (ByteArray × ByteArray) := [(keyID c.s c.h, keyS c.s c.h L.u (ptT L c))]
def ntT : ByteArray := ⟨(byN (ptT L c, sgOf L c)).toArray⟩
def usE : Int := pcE b h D L.C nUs (usB (L.u + 1))
def usD : Dev := pcD b h D L.C nUs (usB (L.u + 1))
def usC : CellM := pcC b h D L.C nUs (usB (L.u + 1))
def noE : Int := pcE b h (usD b h D L) (usC b h D L) nNo (ntT L c).data.toList
def noD : Dev := pcD b h (usD b h D L) (usC b h D L) nNo (ntT L c).data.toList
def noC : CellM := pcC b h (usD b h D L) (usC b h D L) nNo (ntT L c).data.toList
def issE : Int := if isB L.C.now L.lv.length = true then 0 else if L.u = 2 ^ c.h then 8 else if usE b h D L ≠ 0 then usE b h D L else noE b h D L c
def issT : ByteArray := if isB L.C.now L.lv.length = true then noT L.C.now else if L.u = 2 ^ c.h then ByteArray.empty else if usE b h D L ≠ 0 then ByteArray.empty else if noE b h D L c = 0 then ntT L c else ByteArray.empty
def issD : Dev := if isB L.C.now L.lv.length = true then D else if L.u = 2 ^ c.h then D else if usE b h D L ≠ 0 then usD b h D L else noD b h D L c
def issM : LogM := if isB L.C.now L.lv.length = true then L else if L.u = 2 ^ c.h then L else if usE b h D L ≠ 0 then { L with C := usC b h D L } else { L with C := noC b h D L c, u := L.u + 1 }
end
theorem seqM_ok {b h : Nat} {D : Dev} {L : LogM} {c : Cfg} (k : L.ok c) : (seqM b h D L).ok c := by
  unfold seqM
  split
  · exact k
  · split
    · exact ⟨by simpa using k.each, by have := k.few; simpa using this, by simpa using k.fit, k.u⟩
    · exact ⟨k.each, k.few, k.fit, k.u⟩
theorem issM_ok {b h : Nat} {D : Dev} {L : LogM} {c : Cfg} (k : L.ok c) : (issM b h D L c).ok c := by
  unfold issM
  split
  · exact k
  · split
    · exact k
    · next hu =>
      split
      · exact ⟨k.each, k.few, k.fit, k.u⟩
      · exact ⟨k.each, k.few, k.fit, by have := k.u; show L.u + 1 ≤ _; omega⟩

/-! ### The checkpoint's text is a good one, the note too -/
theorem rootL_32 (l : List ByteArray) : (rootL (l.map leafH)).size = 32 := by
  cases l with
  | nil => rw [List.map_nil, rootL_nil]; exact noneH_size
  | cons x r =>
    cases r with
    | nil => rw [List.map_cons, List.map_nil, rootL_one]; exact leafH_size _
    | cons y r => rw [rootL_cut _ (by simp)]; exact nodeH_size _ _
theorem gC_of {L : LogM} {c : Cfg} (hc : c.ok) (k : L.ok c) : gC (ckOf L c) = true :=
  gC_iff.2 ⟨hc.o, by show (0 : Int) ≤ (L.lv.length : Int); omega, by show (L.lv.length : Int) ≤ 1024; have := k.few; omega, rootL_32 _⟩
theorem gO_ne {o : List UInt8} (h : gO o = true) : o ≠ [] := by
  unfold gO at h
  simp only [Bool.and_eq_true, decide_eq_true_eq] at h
  intro e; rw [e] at h; simp at h
theorem dec_ne (u : Nat) : Lib.decDigits u ≠ [] := fun e => by
  have h1 := Lib.decDigits_length u
  rw [e] at h1
  have h2 := Lib.nDigits_pos u
  simp at h1; omega
theorem gT_ck {k : Ck} (h : gC k = true) : gT (ckL k) = true := by
  obtain ⟨h1, h2, h3, h4⟩ := gC_iff.1 h
  refine (gT_iff _).2 ⟨[lTitle, k.o.data.toList, Lib.itoa k.n, hexL k.r.data.toList], by simp, fun a ha => ?_, rfl⟩
  simp only [List.mem_cons, List.not_mem_nil, or_false] at ha
  rcases ha with rfl | rfl | rfl | rfl
  · exact ⟨by decide, title_no10⟩
  · exact ⟨gO_ne h1, gO_no10 h1⟩
  · rw [itoa_of h2]; exact ⟨dec_ne _, dec_no10 _⟩
  · refine ⟨fun e => ?_, hex_no10 _⟩
    have := congrArg List.length e
    rw [hexL_length, Pk.data_len, h4] at this
    simp at this
theorem keyID_size (s : ByteArray) (h : Nat) : (keyID s h).size = 32 := idV_size _ _
theorem gN_of {L : LogM} {c : Cfg} (hc : c.ok) (k : L.ok c) : gN (ptT L c, sgOf L c) = true := by
  refine gN_iff.2 ⟨gT_ck (gC_of hc k), by simp [sgOf], fun x hx => ?_⟩
  rw [List.mem_singleton.1 hx]
  have := keyS_size c.s c.h L.u (ptT L c)
  have := hc.h
  exact ⟨keyID_size _ _, by show 1 ≤ (keyS c.s c.h L.u (ptT L c)).size; omega, by show (keyS c.s c.h L.u (ptT L c)).size ≤ 1024; omega⟩
end Go.Proofs.YthpfpkikmaiddaaGreatDoor.Tg
