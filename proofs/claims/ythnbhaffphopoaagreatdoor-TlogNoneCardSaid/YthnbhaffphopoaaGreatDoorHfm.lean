/- FlM, in one text, in a namespace of their own. -/
import Derived.WalkKit
/- The device on lists: sectors, pending writes, what a crash leaves. No program is named. -/
namespace Go.Proofs.YthnbhaffphopoaaGreatDoor.Pk
abbrev Sec := List UInt8
def zeroS : Sec := List.replicate 64 0
/-- A text, and bytes 0 behind it. -/
def padS (t : List UInt8) : Sec := t ++ List.replicate (64 - t.length) 0
theorem padS_length (t : List UInt8) (h : t.length ≤ 64) : (padS t).length = 64 := by simp [padS]; omega
theorem zeroS_length : zeroS.length = 64 := by simp [zeroS]
/-- The first k bytes are the new ones. -/
def tear (k : Nat) (new old : Sec) : Sec := new.take k ++ old.drop k
theorem tear_length (k : Nat) (new old : Sec) (hn : new.length = 64) (ho : old.length = 64) : (tear k new old).length = 64 := by simp [tear]; omega
theorem tear_all (new old : Sec) (hn : new.length = 64) (ho : old.length = 64) : tear 64 new old = new := by
  simp [tear, List.take_of_length_le (Nat.le_of_eq hn), List.drop_of_length_le (Nat.le_of_eq ho)]
abbrev WrD := Nat × Sec
/-- The sectors behind the writes. -/
def runW (s : List Sec) (ws : List WrD) : List Sec := ws.foldl (fun s x => s.set x.1 x.2) s
theorem runW_snoc (s : List Sec) (ws : List WrD) (x : WrD) : runW s (ws ++ [x]) = (runW s ws).set x.1 x.2 := by simp [runW]
theorem runW_length (s : List Sec) (ws : List WrD) : (runW s ws).length = s.length := by
  induction ws generalizing s with
  | nil => rfl
  | cons x ws ih => rw [show runW s (x :: ws) = runW (s.set x.1 x.2) ws from rfl, ih]; simp
/-- All sectors have 64 bytes; all writes are of sectors that are there, and of 64 bytes. -/
def okS (s : List Sec) : Prop := ∀ x ∈ s, x.length = 64
def okW (n : Nat) (ws : List WrD) : Prop := ∀ x ∈ ws, x.1 < n ∧ x.2.length = 64
theorem okS_set {s : List Sec} (h : okS s) (n : Nat) {t : Sec} (ht : t.length = 64) : okS (s.set n t) := fun x hx => by
  rcases List.mem_or_eq_of_mem_set hx with h1 | rfl
  · exact h x h1
  · exact ht
theorem okS_getD {s : List Sec} (h : okS s) (n : Nat) : (s.getD n zeroS).length = 64 := by
  by_cases hn : n < s.length
  · rw [List.getD_eq_getElem?_getD, List.getElem?_eq_getElem hn]; exact h _ (List.getElem_mem hn)
  · rw [List.getD_eq_getElem?_getD, List.getElem?_eq_none (by omega)]; exact zeroS_length
theorem okW_cons {n : Nat} {x : WrD} {ws : List WrD} (h : okW n (x :: ws)) : (x.1 < n ∧ x.2.length = 64) ∧ okW n ws := ⟨h x (by simp), fun y hy => h y (by simp [hy])⟩
theorem okW_snoc {n : Nat} {x : WrD} {ws : List WrD} (h : okW n ws) (h1 : x.1 < n) (h2 : x.2.length = 64) : okW n (ws ++ [x]) := fun y hy => by
  rcases List.mem_append.1 hy with h3 | h3
  · exact h y h3
  · obtain rfl : y = x := by simpa using h3
    exact ⟨h1, h2⟩
theorem okW_nil (n : Nat) : okW n [] := fun _ h => by cases h
theorem okS_runW {s : List Sec} (h : okS s) {n : Nat} : ∀ {ws : List WrD}, okW n ws → okS (runW s ws) := by
  intro ws
  induction ws generalizing s with
  | nil => exact fun _ => h
  | cons x ws ih => intro hw; exact ih (okS_set h _ (okW_cons hw).1.2) (okW_cons hw).2

/-- A pending write of the program: where, what stood there, what is written. -/
structure Wr where
  at' : Nat
  bef : Sec
  aft : Sec
def pendW : List Sec → List WrD → List Wr
  | _, [] => []
  | s, x :: ws => ⟨x.1, s.getD x.1 zeroS, x.2⟩ :: pendW (s.set x.1 x.2) ws
theorem pendW_snoc : ∀ (s : List Sec) (ws : List WrD) (x : WrD), pendW s (ws ++ [x]) = pendW s ws ++ [⟨x.1, (runW s ws).getD x.1 zeroS, x.2⟩]
  | _, [], _ => rfl
  | s, y :: ws, x => by
    rw [List.cons_append, pendW, pendW, pendW_snoc _ ws x]; rfl
/-- How many bytes of the write number i are left. -/
def keepAt (keep : List Int) (i : Nat) : Nat := if keep = [] then 0 else (min (max (keep.getD (i % keep.length) 0) 0) 64).toNat
/-- One write, as far as it is kept. -/
def lay1 (keep : List Int) (i : Nat) (s : List Sec) (x : WrD) : List Sec := s.set x.1 (tear (keepAt keep i) x.2 (s.getD x.1 zeroS))
/-- The sectors behind the first i writes, each as far as it is kept. -/
def settleN (keep : List Int) (s : List Sec) (ws : List WrD) : Nat → List Sec
  | 0 => s
  | i + 1 => match ws[i]? with
    | some x => lay1 keep i (settleN keep s ws i) x
    | none => settleN keep s ws i
def settle (keep : List Int) (s : List Sec) (ws : List WrD) : List Sec := settleN keep s ws ws.length
theorem settleN_length (keep : List Int) (s : List Sec) (ws : List WrD) : ∀ i, (settleN keep s ws i).length = s.length
  | 0 => rfl
  | i + 1 => by
    unfold settleN
    split
    · simp [lay1, settleN_length keep s ws i]
    · exact settleN_length keep s ws i
theorem okS_settleN {keep : List Int} {s : List Sec} {ws : List WrD} {n : Nat} (h : okS s) (hw : okW n ws) : ∀ i, okS (settleN keep s ws i)
  | 0 => h
  | i + 1 => by
    have ih := okS_settleN (keep := keep) h hw i
    unfold settleN
    split
    · next x hx => exact okS_set ih _ (tear_length _ _ _ (hw x (List.mem_of_getElem? hx)).2 (okS_getD ih _))
    · exact ih
/-- A device. -/
structure Dev where
  safe : List Sec
  ws : List WrD
  taken : Nat
  fall : Nat
  off : Bool
structure Dev.ok (D : Dev) : Prop where
  s : okS D.safe
  w : okW D.safe.length D.ws
  n : D.safe.length ≤ 4096
def Dev.seen (D : Dev) : List Sec := runW D.safe D.ws
theorem Dev.ok.seen_len {D : Dev} : D.seen.length = D.safe.length := runW_length _ _
theorem Dev.ok.seen {D : Dev} (h : D.ok) : okS D.seen := okS_runW h.s h.w
/-- What a step leaves. -/
def Dev.stepD (D : Dev) : Dev := if D.fall = 1 then { D with fall := 0, off := true } else { D with fall := D.fall - 1, taken := D.taken + 1 }
def Dev.goes (D : Dev) : Bool := D.fall ≠ 1
/-- The error of a call of the sector n. -/
def Dev.refused (D : Dev) (n : Int) : Int := if D.off then 7 else if n < 0 ∨ (D.safe.length : Int) ≤ n then 1 else 0
def Dev.writeE (D : Dev) (n : Int) (t : List UInt8) : Int := if D.refused n ≠ 0 then D.refused n else if 64 < t.length then 1 else if D.goes then 0 else 7
def Dev.write (D : Dev) (n : Int) (t : List UInt8) : Dev :=
  if D.refused n ≠ 0 then D else if 64 < t.length then D else if D.goes then { D.stepD with ws := D.ws ++ [(n.toNat, padS t)] } else D.stepD
def Dev.barrierE (D : Dev) : Int := if D.off then 7 else if D.goes then 0 else 7
def Dev.barrier (D : Dev) : Dev := if D.off then D else if D.goes then { D.stepD with safe := D.seen, ws := [] } else D.stepD
def Dev.crash (D : Dev) (keep : List Int) : Dev := { safe := settle keep D.safe D.ws, ws := [], taken := D.taken, fall := 0, off := false }
def Dev.read (D : Dev) (n : Int) : List UInt8 := if D.refused n ≠ 0 then [] else D.seen.getD n.toNat zeroS
def Dev.new (n : Nat) : Dev := { safe := List.replicate n zeroS, ws := [], taken := 0, fall := 0, off := false }
theorem Dev.new_ok (n : Nat) (h : n ≤ 4096) : (Dev.new n).ok := ⟨fun x hx => by rw [List.eq_of_mem_replicate hx]; exact zeroS_length, okW_nil _, by simpa [Dev.new] using h⟩
theorem Dev.ok.crash {D : Dev} (h : D.ok) (keep : List Int) : (D.crash keep).ok := ⟨okS_settleN h.s h.w _, okW_nil _, by simp only [Dev.crash, settle, settleN_length]; exact h.n⟩
theorem Dev.ok.step {D : Dev} (h : D.ok) : D.stepD.ok := by
  unfold Dev.stepD; split <;> exact ⟨h.s, h.w, h.n⟩
theorem Dev.step_ws (D : Dev) : D.stepD.ws = D.ws := by unfold Dev.stepD; split <;> rfl
theorem Dev.step_safe (D : Dev) : D.stepD.safe = D.safe := by unfold Dev.stepD; split <;> rfl
theorem Dev.ok.barrier {D : Dev} (h : D.ok) : D.barrier.ok := by
  unfold Dev.barrier
  split
  · exact h
  · split
    · exact ⟨h.seen, okW_nil _, by simp only [Dev.ok.seen_len]; exact h.n⟩
    · exact h.step
theorem Dev.ok.write {D : Dev} (h : D.ok) (n : Int) (t : List UInt8) : (D.write n t).ok := by
  unfold Dev.write
  split
  · exact h
  · next h0 =>
    split
    · exact h
    · next h1 =>
      split
      · refine ⟨by simpa [Dev.step_safe] using h.s, ?_, by simpa [Dev.step_safe] using h.n⟩
        simp only [Dev.step_safe]
        refine okW_snoc h.w ?_ (padS_length t (by omega))
        unfold Dev.refused at h0
        split at h0
        · simp at h0
        · split at h0
          · simp at h0
          · simp; omega
      · exact h.step
end Go.Proofs.YthnbhaffphopoaaGreatDoor.Pk
