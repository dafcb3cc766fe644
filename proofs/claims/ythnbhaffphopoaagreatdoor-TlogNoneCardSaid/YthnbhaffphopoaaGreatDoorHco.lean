/- CeO CeE CeF CeG, in one text, in a namespace of their own. -/
import Derived.Test.YthnbhaffphopoaaGreatDoorHcq
/- Things in memory, side by side: each with the blocks that are its own; what a call does to one leaves the others. No function is named. -/
namespace Go.Proofs.YthnbhaffphopoaaGreatDoor.Pk
open Go.RowKit Go.Maps

/-- A thing in memory: in a world, with the blocks that are its own. -/
abbrev Obj := World → (Nat → Prop) → Prop
def Ext (F : Nat → Prop) (w w' : World) : Nat → Prop := fun k => F k ∨ (w.heap.size ≤ k ∧ k < w'.heap.size)
structure Good (O : Obj) : Prop where
  lt : ∀ {w F}, O w F → ∀ k, F k → k < w.heap.size
  chg : ∀ {w w' F} {S : Nat → Prop}, O w F → Chg S w w' → (∀ k, F k → ¬ S k) → O w' F
  wide : ∀ {w F} {G : Nat → Prop}, O w F → (∀ k, F k → G k) → (∀ k, G k → k < w.heap.size) → O w G
theorem Good.below {O : Obj} (g : Good O) {w w' : World} {F : Nat → Prop} (h : O w F) (hb : Below w.heap.size w w') : O w' F := g.chg h (Chg.of_below hb) fun k hk => by have := g.lt h k hk; omega
/-- Two things that share nothing. -/
def Pair2 (O1 O2 : Obj) : Obj := fun w F => ∃ F1 F2, O1 w F1 ∧ O2 w F2 ∧ (∀ k, F1 k → ¬ F2 k) ∧ (∀ k, F1 k → F k) ∧ (∀ k, F2 k → F k) ∧ ∀ k, F k → k < w.heap.size
theorem Pair2.good {O1 O2 : Obj} (g1 : Good O1) (g2 : Good O2) : Good (Pair2 O1 O2) where
  lt := fun ⟨_, _, _, _, _, _, _, h⟩ => h
  chg := fun ⟨F1, F2, h1, h2, hd, e1, e2, hl⟩ hc hn => ⟨F1, F2, g1.chg h1 hc fun k hk => hn k (e1 k hk), g2.chg h2 hc fun k hk => hn k (e2 k hk), hd, e1, e2, fun k hk => Nat.lt_of_lt_of_le (hl k hk) hc.size⟩
  wide := fun ⟨F1, F2, h1, h2, hd, e1, e2, _⟩ hG hl => ⟨F1, F2, h1, h2, hd, fun k hk => hG k (e1 k hk), fun k hk => hG k (e2 k hk), hl⟩
theorem Pair2.swap {O1 O2 : Obj} {w : World} {F : Nat → Prop} (h : Pair2 O1 O2 w F) : Pair2 O2 O1 w F := by
  obtain ⟨F1, F2, h1, h2, hd, e1, e2, hl⟩ := h
  exact ⟨F2, F1, h2, h1, fun k hk hk2 => hd k hk2 hk, e2, e1, hl⟩
theorem Pair2.assoc {O1 O2 O3 : Obj} {w : World} {F : Nat → Prop} (h : Pair2 (Pair2 O1 O2) O3 w F) : Pair2 O1 (Pair2 O2 O3) w F := by
  obtain ⟨F12, F3, ⟨F1, F2, h1, h2, hd, e1, e2, hl⟩, h3, hd3, e12, e3, hl2⟩ := h
  refine ⟨F1, fun k => F2 k ∨ F3 k, h1, ⟨F2, F3, h2, h3, fun k hk => hd3 k (e2 k hk), fun _ => .inl, fun _ => .inr, fun k hk => hl2 k (hk.elim (fun hk => e12 k (e2 k hk)) (e3 k))⟩, fun k hk hk2 => hk2.elim (hd k hk) (hd3 k (e1 k hk)), fun k hk => e12 k (e1 k hk), fun k hk => hk.elim (fun hk => e12 k (e2 k hk)) (e3 k), hl2⟩
theorem Pair2.assoc' {O1 O2 O3 : Obj} {w : World} {F : Nat → Prop} (h : Pair2 O1 (Pair2 O2 O3) w F) : Pair2 (Pair2 O1 O2) O3 w F :=
  Pair2.swap (Pair2.assoc (Pair2.swap (Pair2.assoc (Pair2.swap h))))
/-- A call takes a thing to another: what it answers may tell which. -/
def Does (f : FuncId) (args : Array Value) (O : Obj) (Q : Ending → Obj) : Prop :=
  ∀ w F, O w F → Calls Tryz.prog f args w fun e w' => Box (Q e w' (Ext F w w') ∧ Chg F w w')
theorem Does.beside {f : FuncId} {args : Array Value} {O : Obj} {Q : Ending → Obj} (h : Does f args O Q) {O2 : Obj} (g2 : Good O2) : Does f args (Pair2 O O2) fun e => Pair2 (Q e) O2 := by
  rintro w F ⟨F1, F2, h1, h2, hd, e1, e2, hl⟩
  refine (h w F1 h1).mono fun e w' hb => ⟨⟨Ext F1 w w', F2, hb.out.1, g2.chg h2 hb.out.2 fun k hk hk2 => hd k hk2 hk, fun k hk hk2 => ?_, fun k hk => ?_, fun k hk => .inl (e2 k hk), fun k hk => ?_⟩, hb.out.2.mono fun k _ hk => e1 k hk⟩
  · rcases hk with hk | hk
    · exact hd k hk hk2
    · have := g2.lt h2 k hk2; omega
  · rcases hk with hk | hk
    · exact .inl (e1 k hk)
    · exact .inr hk
  · rcases hk with hk | hk
    · exact Nat.lt_of_lt_of_le (hl k hk) hb.out.2.size
    · exact hk.2
theorem Does.conv {f : FuncId} {args : Array Value} {O O' : Obj} {Q Q' : Ending → Obj} (h : Does f args O Q) (hO : ∀ w F, O' w F → O w F) (hQ : ∀ e w F, Q e w F → Q' e w F) : Does f args O' Q' :=
  fun w F hw => (h w F (hO w F hw)).mono fun _ _ hb => ⟨hQ _ _ _ hb.out.1, hb.out.2⟩
/-- What a walk keeps: a thing whose blocks are all new, nothing that was there has changed. -/
def Kept (w0 : World) (O : Obj) (w : World) : Prop := ∃ F, O w F ∧ (∀ k, F k → w0.heap.size ≤ k) ∧ Below w0.heap.size w0 w
theorem Kept.call {w0 w : World} {O : Obj} {f : FuncId} {args : Array Value} {Q : Ending → Obj} (h : Kept w0 O w) (hd : Does f args O Q) : Calls Tryz.prog f args w fun e w' => Box (Kept w0 (Q e) w') := by
  obtain ⟨F, h1, h2, h3⟩ := h
  refine (hd w F h1).mono fun e w' hb => ⟨_, hb.out.1, fun k hk => ?_, h3.trans (hb.out.2.below h3.size h2)⟩
  rcases hk with hk | hk
  · exact h2 k hk
  · exact Nat.le_trans h3.size hk.1
theorem Kept.below {w0 w w' : World} {O : Obj} (h : Kept w0 O w) (g : Good O) (hb : Below w.heap.size w w') : Kept w0 O w' := by
  obtain ⟨F, h1, h2, h3⟩ := h
  exact ⟨F, g.below h1 hb, h2, h3.trans (hb.mono h3.size)⟩
theorem Kept.conv {w0 w : World} {O O' : Obj} (h : Kept w0 O w) (hO : ∀ F, O w F → O' w F) : Kept w0 O' w := by
  obtain ⟨F, h1, h2⟩ := h
  exact ⟨F, hO F h1, h2⟩
theorem Kept.k {w0 w : World} {O : Obj} (h : Kept w0 O w) : Below w0.heap.size w0 w := by
  obtain ⟨F, _, _, h3⟩ := h
  exact h3
/-- A call that makes a new thing beside what is there. -/
theorem Kept.add {w0 w w' : World} {O O2 : Obj} {G : Nat → Prop} (h : Kept w0 O w) (g : Good O) (hb : Below w.heap.size w w') (h2 : O2 w' G) (g2 : Good O2) (hG : ∀ k, G k → w.heap.size ≤ k) : Kept w0 (Pair2 O O2) w' := by
  obtain ⟨F, h1, h3, h4⟩ := h
  have hl := g.lt h1
  refine ⟨fun k => F k ∨ G k, ⟨F, G, g.below h1 hb, h2, fun k hk hk2 => ?_, fun _ => .inl, fun _ => .inr, fun k hk => ?_⟩, fun k hk => ?_, h4.trans (hb.mono h4.size)⟩
  · have := hl k hk; have := hG k hk2; omega
  · rcases hk with hk | hk
    · exact Nat.lt_of_lt_of_le (hl k hk) hb.size
    · exact g2.lt h2 k hk
  · rcases hk with hk | hk
    · exact h3 k hk
    · exact Nat.le_trans h4.size (hG k hk)
theorem Ext.of_below {w w' : World} {F : Nat → Prop} {O : Obj} (g : Good O) (h : O w F) (hb : Below w.heap.size w w') : O w' (Ext F w w') ∧ Chg F w w' :=
  ⟨g.wide (g.below h hb) (fun _ => .inl) (fun k hk => by
    rcases hk with hk | hk
    · exact Nat.lt_of_lt_of_le (g.lt h k hk) hb.size
    · exact hk.2), (Chg.of_below hb).mono fun i hi hk => by omega⟩
theorem Ext.same {w : World} {F : Nat → Prop} {O : Obj} (g : Good O) (h : O w F) : O w (Ext F w w) ∧ Chg F w w := Ext.of_below g h (Below.refl _ _)
end Go.Proofs.YthnbhaffphopoaaGreatDoor.Pk


/- The program's cell in memory; its calls without the device: Get, Put, Drop, Names, Number, Undo. -/
namespace Go.Proofs.YthnbhaffphopoaaGreatDoor.Pk
open Go.RowKit Go.Maps

/-- A cell: what is told, what was committed last, its number, the copy that it went to, whether the power has gone in a Commit. -/
structure CellM where
  now : Ct
  was : Ct
  num : Nat
  last : Nat
  off : Bool
structure CellM.ok (M : CellM) (base half : Nat) : Prop where
  now : M.now.ok
  was : M.was.ok
  num : M.num ≤ 1000000
  last : M.last ≤ 1
  base : base ≤ 4096
  half : 2 ≤ half ∧ half ≤ 4096
def cellCells (bd bn : Nat) (p : Option Nat) (base half : Nat) (M : CellM) : List Value :=
  [.map (some bn), .map p, .int .i64 (M.num : Int), .pointer (some ⟨bd, 0, none⟩), .int .i64 ((base + M.last * half : Nat) : Int), .int .i64 (half : Int), .pointer (some ⟨bd, 0, none⟩), .int .i64 ((base + (1 - M.last) * half : Nat) : Int), .int .i64 (half : Int), .bool M.off]
/-- A cell in block bc, of a region of the device in block bd. -/
structure CelO (bd bc base half : Nat) (M : CellM) (w : World) (F : Nat → Prop) : Prop where
  ok : M.ok base half
  out : ∃ bn p, Blk w bc (cellCells bd bn p base half M) 196 ∧ MapAt w bn M.now ∧ WasAt w p M.was ∧ F bn ∧ (∀ b, p = some b → F b) ∧ p ≠ some bn
  fc : F bc
  lt : ∀ k, F k → k < w.heap.size
theorem CelO.good (bd bc base half : Nat) (M : CellM) : Good (CelO bd bc base half M) where
  lt := fun h => h.lt
  chg := fun h hc hn => by
    obtain ⟨bn, p, h1, h2, h3, h4, h5, h6⟩ := h.out
    exact ⟨h.ok, ⟨bn, p, hc.blk h1 (hn _ h.fc), h2.chg hc (hn _ h4), h3.chg hc fun b hb => hn _ (h5 b hb), h4, h5, h6⟩, h.fc, fun k hk => Nat.lt_of_lt_of_le (h.lt k hk) hc.size⟩
  wide := fun h hG hl => by
    obtain ⟨bn, p, h1, h2, h3, h4, h5, h6⟩ := h.out
    exact ⟨h.ok, ⟨bn, p, h1, h2, h3, hG _ h4, fun b hb => hG _ (h5 b hb), h6⟩, hG _ h.fc, hl⟩
/-- A map is no block of cells. -/
theorem MapAt.ne {w : World} {b bc : Nat} {c : Ct} {cs : List Value} {t : TypeId} (h : MapAt w b c) (hb : Blk w bc cs t) : b ≠ bc := by
  rintro rfl
  obtain ⟨es, clock, h1, _⟩ := h
  unfold Blk at hb
  rw [h1] at hb
  cases hb
def RetE (v : Value) (O : Obj) : Ending → Obj := fun e w F => e = .returned v ∧ O w F

/-! ### Get, Names, Number -/
def getV (c : Ct) (n : Bs) : Value := .tuple #[.string (btx ((getC c n).getD [])), .bool (getC c n).isSome]
set_option maxHeartbeats 1600000 in
theorem get_any (bc bn : Nat) (cs : List Value) (c : Ct) (s : ByteArray) (w : World) (hb : Blk w bc (.map (some bn) :: cs) 196) (hM : MapAt w bn c) (hs : s.size ≤ maxLen) :
    Calls Tryz.prog 94 #[.pointer (some ⟨bc, 0, none⟩), .string s] w fun e w' => e = .returned (getV c s.data.toList) ∧ Below w.heap.size w w' := by
  have c0 : w.cell? ⟨bc, 0, none⟩ = some (.map (some bn)) := hb.cell 0
  unfold getV
  obtain ⟨tx, htx⟩ : ∃ tx, btx ((getC c s.data.toList).getD []) = tx := ⟨_, rfl⟩
  obtain ⟨y, hy⟩ : ∃ y, (getC c s.data.toList).isSome = y := ⟨_, rfl⟩
  have hrw : Box (Value.tuple #[.agg #[.string (btx ((getC c s.data.toList).getD []))], .bool (getC c s.data.toList).isSome] = .tuple #[.agg #[.string tx], .bool y]) := ⟨by rw [htx, hy]⟩
  rw [htx, hy]
  have hB := Box.mk ((Below.refl w.heap.size w).alloc (Nat.le_refl _) (.cells #[.string tx] 242))
  replace hM := Box.mk hM
  replace hs := Box.mk hs
  clear hb htx hy
  go_enter Tryz.func94, Tryz.ntmps94
  go_wp2_with (at_lookup; refine wpList_look_ok rfl _ _ rfl bn c rfl hM.out s rfl hs.out ?_; rw [hrw.out])
  go_returns
  exact ⟨rfl, hB.out⟩
end Go.Proofs.YthnbhaffphopoaaGreatDoor.Pk


/- The program's cell in memory: Put, Drop, Undo. -/
namespace Go.Proofs.YthnbhaffphopoaaGreatDoor.Pk
open Go.RowKit Go.Maps

theorem data_nil {s : ByteArray} (h : s.size = 0) : s.toList.isEmpty = true := by
  rw [ByteArray.toList_eq]
  have : s.data.toList.length = 0 := by rw [data_len]; exact h
  rw [List.eq_nil_of_length_eq_zero this]; rfl
theorem data_cons {s : ByteArray} (h : s.size ≠ 0) : s.toList.isEmpty = false := by
  rw [ByteArray.toList_eq]
  have : s.data.toList.length ≠ 0 := by rw [data_len]; exact h
  cases hs : s.data.toList with
  | nil => rw [hs] at this; exact absurd rfl this
  | cons x l => rfl
/-- What Put leaves of a cell's map. -/
def PutLeft (w : World) (bn : Nat) (c : Ct) (w' : World) : Prop := MapAt w' bn c ∧ Chg (fun k => k = bn) w w'
theorem PutLeft.same {w w' : World} {bn : Nat} {c : Ct} (h : MapAt w bn c) (hb : Below w.heap.size w w') : PutLeft w bn c w' := ⟨h.below hb h.lt, (Chg.of_below hb).mono fun i hi hk => by omega⟩
set_option maxHeartbeats 3200000 in
set_option maxRecDepth 100000 in
theorem put_map (bc bn : Nat) (cs : List Value) (c : Ct) (s t : ByteArray) (w : World) (hb : Blk w bc (.map (some bn) :: cs) 196) (hM : MapAt w bn c) (hc : c.ok) (hs : s.size ≤ maxLen) (ht : t.size ≤ maxLen) :
    Calls Tryz.prog 126 #[.pointer (some ⟨bc, 0, none⟩), .string s, .string t] w fun e w' => e = .returned (.int .i64 (putE c s.data.toList t.data.toList)) ∧ Box (PutLeft w bn (putM c s.data.toList t.data.toList) w') := by
  have c0 : w.cell? ⟨bc, 0, none⟩ = some (.map (some bn)) := hb.cell 0
  have hne := hM.ne hb
  have hcn := hc.n
  have hsl := data_len s
  have htl := data_len t
  by_cases q1 : s.size = 0
  · have he : s.toList.isEmpty = true := data_nil q1
    have hE : Box (putE c s.data.toList t.data.toList = 1) := ⟨by unfold putE; rw [if_pos (by omega)]⟩
    have hR : Box (PutLeft w bn (putM c s.data.toList t.data.toList) w) := ⟨by unfold putM; rw [hE.out, if_neg (by decide)]; exact PutLeft.same hM (Below.refl _ _)⟩
    clear hM hsl htl
    go_enter Tryz.func126, Tryz.ntmps126
    go_wp2_with fail
    go_returns
    exact ⟨by rw [hE.out]; rfl, hR⟩
  · have he : s.toList.isEmpty = false := data_cons q1
    by_cases q2 : 32 < s.size
    · have hE : Box (putE c s.data.toList t.data.toList = 1) := ⟨by unfold putE; rw [if_pos (by omega)]⟩
      have hR : Box (PutLeft w bn (putM c s.data.toList t.data.toList) w) := ⟨by unfold putM; rw [hE.out, if_neg (by decide)]; exact PutLeft.same hM (Below.refl _ _)⟩
      have q3 : (32 : Int) < (s.size : Int) := by omega
      clear hM hsl htl
      replace q1 := Box.mk q1
      go_enter Tryz.func126, Tryz.ntmps126
      go_wp2_with fail
      go_returns
      exact ⟨by rw [hE.out]; rfl, hR⟩
    · have q3 : ¬ (32 : Int) < (s.size : Int) := by omega
      by_cases q4 : 65535 < t.size
      · have hE : Box (putE c s.data.toList t.data.toList = 4) := ⟨by unfold putE; rw [if_neg (by omega), if_pos (by omega)]⟩
        have hR : Box (PutLeft w bn (putM c s.data.toList t.data.toList) w) := ⟨by unfold putM; rw [hE.out, if_neg (by decide)]; exact PutLeft.same hM (Below.refl _ _)⟩
        have q5 : (65535 : Int) < (t.size : Int) := by omega
        clear hM hsl htl
        replace q1 := Box.mk q1
        go_enter Tryz.func126, Tryz.ntmps126
        go_wp2_with fail
        go_returns
        exact ⟨by rw [hE.out]; rfl, hR⟩
      · have q5 : ¬ (65535 : Int) < (t.size : Int) := by omega
        obtain ⟨tx, htx⟩ : ∃ tx, btx ((getC c s.data.toList).getD []) = tx := ⟨_, rfl⟩
        obtain ⟨y, hy⟩ : ∃ y, (getC c s.data.toList).isSome = y := ⟨_, rfl⟩
        have hrw : Box (Value.tuple #[.agg #[.string (btx ((getC c s.data.toList).getD []))], .bool (getC c s.data.toList).isSome] = .tuple #[.agg #[.string tx], .bool y]) := ⟨by rw [htx, hy]⟩
        obtain ⟨wb, hwb⟩ : ∃ wb, w.alloc (.cells #[.string tx] 242) = wb := ⟨_, rfl⟩
        have hBb : Box (Below w.heap.size w wb) := ⟨by rw [← hwb]; exact (Below.refl _ _).alloc (Nat.le_refl _) _⟩
        have hMb : MapAt wb bn c := hM.below hBb.out hM.lt
        have c0b : wb.cell? ⟨bc, 0, none⟩ = some (.map (some bn)) := by rw [hBb.out.cell (p := ⟨bc, 0, none⟩) hb.lt]; exact c0
        have hlen : ∀ ty, (Builtin.len_ #[194] ty #[.map (some bn)]).run Tryz.prog wb = .ok (.int .i64 (c.length : Int)) wb := fun ty => by
          have := World.ownsMap.len hMb Tryz.underlying194 ty
          rwa [contD_size] at this
        have hbl := hb.lt
        replace hM := Box.mk hM
        replace hMb := Box.mk hMb
        replace hs := Box.mk hs
        replace ht := Box.mk ht
        have q1p : 1 ≤ s.size := by omega
        replace q1 := Box.mk q1
        replace hne := Box.mk hne
        by_cases q6 : y = false ∧ 64 ≤ c.length
        · obtain ⟨rfl, q7⟩ := q6
          have hE : Box (putE c s.data.toList t.data.toList = 6) := ⟨by
            unfold putE
            rw [if_neg (by omega), if_neg (by omega), if_pos ⟨by simpa using hy, q7⟩]⟩
          have hR : Box (PutLeft w bn (putM c s.data.toList t.data.toList) wb) := ⟨by unfold putM; rw [hE.out, if_neg (by decide)]; exact PutLeft.same hM.out hBb.out⟩
          have q8 : (64 : Int) ≤ (c.length : Int) := by omega
          clear hsl htl htx hy hb
          replace hc := Box.mk hc
          go_enter Tryz.func126, Tryz.ntmps126
          go_wp2_with (at_lookup; refine wpList_look_ok rfl _ _ rfl bn c rfl hM.out s rfl hs.out ?_; rw [hrw.out])
          go_returns
          exact ⟨by rw [hE.out]; rfl, hR⟩
        · have hE : Box (putE c s.data.toList t.data.toList = 0) := ⟨by
            unfold putE
            rw [if_neg (by omega), if_neg (by omega), if_neg]
            rintro ⟨h1, h2⟩
            exact q6 ⟨by rw [← hy, h1]; rfl, h2⟩⟩
          have hput : Box (putM c s.data.toList t.data.toList = putC c s.data.toList t.data.toList) := ⟨by unfold putM; rw [if_pos hE.out]⟩
          have hclen : Box (c.length < 1000000) := ⟨by omega⟩
          have hrise : Box (c.Pairwise (fun p q => p.1 < q.1)) := ⟨hc.rise⟩
          have hend : Box (∀ w', MapAt w' bn (putC c s.data.toList t.data.toList) → Chg (fun k => k = bn) wb w' → PutLeft w bn (putM c s.data.toList t.data.toList) w') := ⟨fun w' h1 h2 => by
            rw [hput.out]
            exact ⟨h1, ((Chg.of_below hBb.out).mono (T := fun k => k = bn) fun i hi hk => by omega).trans h2 fun _ _ h => h⟩⟩
          replace hc := Box.mk hc
          cases y with
          | true =>
            clear hsl htl htx hy hb hlen
            go_enter Tryz.func126, Tryz.ntmps126
            go_wp2_with (first | (at_lookup; refine wpList_look_ok rfl _ _ rfl bn c rfl hM.out s rfl hs.out ?_; rw [hrw.out]) | (at_mapUpdate; refine wpList_store rfl _ _ _ rfl bn c rfl hMb.out hrise.out hclen.out s t rfl rfl hs.out ht.out ?_; intro w6 hM6 hC6))
            have hR := Box.mk (hend.out w6 hM6 hC6)
            clear hM6 hC6 hend
            go_returns
            exact ⟨by rw [hE.out]; rfl, hR⟩
          | false =>
            have q8 : ¬ (64 : Int) ≤ (c.length : Int) := by
              have : ¬ 64 ≤ c.length := fun h => q6 ⟨rfl, h⟩
              omega
            clear hsl htl htx hy hb
            go_enter Tryz.func126, Tryz.ntmps126
            go_wp2_with (first | (at_lookup; refine wpList_look_ok rfl _ _ rfl bn c rfl hM.out s rfl hs.out ?_; rw [hrw.out]) | (at_mapUpdate; refine wpList_store rfl _ _ _ rfl bn c rfl hMb.out hrise.out hclen.out s t rfl rfl hs.out ht.out ?_; intro w6 hM6 hC6))
            have hR := Box.mk (hend.out w6 hM6 hC6)
            clear hM6 hC6 hend
            go_returns
            exact ⟨by rw [hE.out]; rfl, hR⟩
end Go.Proofs.YthnbhaffphopoaaGreatDoor.Pk


/- The program's cell in memory: Drop, Undo; Put, Drop, Undo, Get, Names, Number as calls of a thing. -/
namespace Go.Proofs.YthnbhaffphopoaaGreatDoor.Pk
open Go.RowKit Go.Maps

theorem Blk.chg0 {w : World} {b : Nat} {cs : List Value} {t : TypeId} (h : Blk w b cs t) (o : Go.Obj) : Blk (w.alloc o) b cs t := (Below.heap_alloc _ _ _ h.lt).trans h
/-- What Undo leaves: a new map of what was committed. -/
def UndoLeft (w : World) (bc : Nat) (v : Value) (cs : List Value) (was : Ct) (w' : World) : Prop :=
  ∃ b2, w.heap.size ≤ b2 ∧ MapAt w' b2 was ∧ Blk w' bc (.map (some b2) :: v :: cs) 196 ∧ Chg (fun k => k = bc) w w'
set_option maxHeartbeats 3200000 in
set_option maxRecDepth 100000 in
theorem undo_map (bc : Nat) (v : Value) (p : Option Nat) (cs : List Value) (was : Ct) (w : World) (hb : Blk w bc (v :: .map p :: cs) 196) (hW : WasAt w p was) (hp : p ≠ some bc) (hc : was.ok) :
    Calls Tryz.prog 119 #[.pointer (some ⟨bc, 0, none⟩)] w fun e w' => e = .returned (.tuple #[]) ∧ Box (UndoLeft w bc (.map p) cs was w') := by
  have hbl := hb.lt
  have hcn := hc.n
  have hmm := @run_makeMap Tryz.prog
  obtain ⟨wa, hwa⟩ : ∃ wa, w.alloc (.map #[] 0) = wa := ⟨_, rfl⟩
  have hba : Blk wa bc (v :: .map p :: cs) 196 := by rw [← hwa]; exact hb.chg0 _
  have f0 : wa.frozen? ⟨bc, 0, none⟩ = false := hba.free 0
  have c0 : wa.cell? ⟨bc, 0, none⟩ = some v := hba.cell 0
  have hMa : MapAt wa w.heap.size [] := by rw [← hwa]; exact MapAt.new w
  obtain ⟨w1, hw1⟩ : ∃ w1, wa.setCell ⟨bc, 0, none⟩ (.map (some w.heap.size)) = w1 := ⟨_, rfl⟩
  have hbn : Box (Blk w1 bc (.map (some w.heap.size) :: .map p :: cs) 196) := ⟨by rw [← hw1]; exact hba.setCell 0 _⟩
  have hCa : Chg (fun k => k = bc) wa w1 := by rw [← hw1]; exact (Chg.refl (fun k => k = bc) wa).setCell (p := ⟨bc, 0, none⟩) rfl _
  have hM1 : Box (MapAt w1 w.heap.size []) := ⟨hMa.chg hCa (fun e => by omega)⟩
  have hC1 : Box (Chg (fun k => k = bc) w w1) := ⟨by
    have : Chg (fun k => k = bc) w wa := by rw [← hwa]; exact (Chg.refl _ w).alloc _
    exact this.trans hCa fun _ _ h => h⟩
  have hW1 : Box (WasAt w1 p was) := ⟨hW.chg hC1.out fun b hb2 hb3 => hp (by rw [hb2, hb3])⟩
  have hpn : Box (p ≠ some w.heap.size) := ⟨fun e => by have := hW.lt _ e; omega⟩
  have hlw : Box (w.heap.size ≠ bc) := ⟨by omega⟩
  replace hbl := Box.mk hbl
  clear hW hba hMa hCa
  replace hb := Box.mk hb
  replace hc := Box.mk hc
  replace hp := Box.mk hp
  obtain ⟨b2, hb2⟩ : ∃ b2, w.heap.size = b2 := ⟨_, rfl⟩
  rw [hb2] at hbn hM1 hpn hlw hw1
  go_enter Tryz.func119, Tryz.ntmps119
  go_wp2_with fail
  have d0 : w1.cell? ⟨bc, 0, none⟩ = some (.map (some b2)) := hbn.out.cell 0
  have d1 : w1.cell? ⟨bc, 1, none⟩ = some (.map p) := hbn.out.cell 1
  clear hw1 hmm f0 c0 hwa
  refine region_quiet_tail (C := fun w' => ∃ n, w' = w1.drewN n) 8 rfl (by kernel_rfl) ⟨1, rfl⟩ ?_
  simp only [List.take, List.drop]
  repeat (go_big_quiet_step (first | exact fun _ => rfl | rfl))
  refine wpQuiet_nil ?_
  rintro w5 ⟨r, rfl⟩
  have hb5 : Below w1.heap.size w1 (w1.drewN r) := below_drewN _ w1 r
  have hCp := mcopy_opt b2 p was (w1.drewN r) (hM1.out.below hb5 hM1.out.lt) (hW1.out.chg (Chg.of_below hb5) fun b hb6 hb7 => by have := hW1.out.lt b hb6; omega) hpn.out hc.out.rise (by omega)
  have hC5 : Box (Chg (fun k => k = bc) w (w1.drewN r)) := ⟨hC1.out.trans ((Chg.of_below hb5).mono (T := fun k => k = bc) fun i hi hk => by omega) fun _ _ h => h⟩
  have hbn5 : Box (Blk (w1.drewN r) bc (.map (some b2) :: .map p :: cs) 196) := ⟨(hb5.block _ hbn.out.lt).trans hbn.out⟩
  have hbs : Box (w.heap.size ≤ b2) := ⟨by omega⟩
  generalize w1.drewN r = w5 at hCp hC5 hbn5 ⊢
  clear d0 d1 hb5
  replace hCp := Box.mk hCp
  go_wp2_with fail
  refine hCp.out.mono ?_
  rintro e w6 ⟨rfl, hM6, hC6⟩
  have hR : Box (UndoLeft w bc (.map p) cs was w6) := ⟨b2, hbs.out, hM6, hC6.blk hbn5.out (fun e => hlw.out e.symm), hC5.out.trans (hC6.mono (T := fun k => k = bc ∨ k = b2) fun _ _ h => .inr h) fun i hi hk => hk.elim id (fun e => by have := hbs.out; omega)⟩
  clear hM6 hC6 hCp
  go_wp2_with fail
  go_returns
  exact ⟨rfl, hR⟩
end Go.Proofs.YthnbhaffphopoaaGreatDoor.Pk
