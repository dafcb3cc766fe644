/- Calls of a device and of a cell beside other things, in a walk that began in a world. -/
import Derived.Test.YtoaipjpbioaneaaGreatCeN
namespace Go.Proofs.YtoaipjpbioaneaaGreat
open Go.RowKit Go.Maps

/-- A call takes a thing to another, in a walk that began in w0: what was there then is there still. -/
def DoesIn (w0 : World) (f : FuncId) (args : Array Value) (O : Obj) (Q : Ending → Obj) : Prop :=
  ∀ w F, O w F → (∀ k, F k → w0.heap.size ≤ k) → Below w0.heap.size w0 w → Calls Tryz.prog f args w fun e w' => Box (Q e w' (Ext F w w') ∧ Chg F w w')
theorem Does.in_ {w0 : World} {f : FuncId} {args : Array Value} {O : Obj} {Q : Ending → Obj} (h : Does f args O Q) : DoesIn w0 f args O Q := fun w F hO _ _ => h w F hO
theorem DoesIn.beside {w0 : World} {f : FuncId} {args : Array Value} {O : Obj} {Q : Ending → Obj} (h : DoesIn w0 f args O Q) {O2 : Obj} (g2 : Good O2) : DoesIn w0 f args (Pair2 O O2) fun e => Pair2 (Q e) O2 := by
  rintro w F ⟨F1, F2, h1, h2, hd, e1, e2, hl⟩ hF hB
  refine (h w F1 h1 (fun k hk => hF k (e1 k hk)) hB).mono fun e w' hb => ⟨⟨Ext F1 w w', F2, hb.out.1, g2.chg h2 hb.out.2 fun k hk hk2 => hd k hk2 hk, fun k hk hk2 => ?_, fun k hk => ?_, fun k hk => .inl (e2 k hk), fun k hk => ?_⟩, hb.out.2.mono fun k _ hk => e1 k hk⟩
  · rcases hk with hk | hk
    · exact hd k hk hk2
    · have := g2.lt h2 k hk2; omega
  · rcases hk with hk | hk
    · exact .inl (e1 k hk)
    · exact .inr hk
  · rcases hk with hk | hk
    · exact Nat.lt_of_lt_of_le (hl k hk) hb.out.2.size
    · exact hk.2
theorem DoesIn.conv {w0 : World} {f : FuncId} {args : Array Value} {O O' : Obj} {Q Q' : Ending → Obj} (h : DoesIn w0 f args O Q) (hO : ∀ w F, O' w F → O w F) (hQ : ∀ e w F, Q e w F → Q' e w F) : DoesIn w0 f args O' Q' :=
  fun w F hw hF hB => (h w F (hO w F hw) hF hB).mono fun _ _ hb => ⟨hQ _ _ _ hb.out.1, hb.out.2⟩
theorem RetE.beside {v : Value} {O O2 : Obj} {e : Ending} {w : World} {F : Nat → Prop} (h : Pair2 (RetE v O e) O2 w F) : RetE v (Pair2 O O2) e w F := by
  obtain ⟨F1, F2, ⟨h0, h1⟩, h2⟩ := h
  exact ⟨h0, F1, F2, h1, h2⟩
/-- Beside: the call's answer known. -/
theorem DoesIn.ret {w0 : World} {f : FuncId} {args : Array Value} {O O' : Obj} {v : Value} (h : DoesIn w0 f args O (RetE v O')) {O2 : Obj} (g2 : Good O2) : DoesIn w0 f args (Pair2 O O2) (RetE v (Pair2 O' O2)) :=
  (h.beside g2).conv (fun _ _ h => h) fun _ _ _ h => RetE.beside h
theorem DoesIn.ret' {w0 : World} {f : FuncId} {args : Array Value} {O O' : Obj} {v : Value} (h : DoesIn w0 f args O (RetE v O')) {O2 : Obj} (g2 : Good O2) : DoesIn w0 f args (Pair2 O2 O) (RetE v (Pair2 O2 O')) :=
  (h.ret g2).conv (fun _ _ h => h.swap) fun _ _ _ h => ⟨h.1, h.2.swap⟩
theorem Kept.step {w0 w : World} {O O' : Obj} {f : FuncId} {args : Array Value} {v : Value} (h : Kept w0 O w) (hd : DoesIn w0 f args O (RetE v O')) : Calls Tryz.prog f args w fun e w' => e = .returned v ∧ Box (Kept w0 O' w') := by
  obtain ⟨F, h1, h2, h3⟩ := h
  refine (hd w F h1 h2 h3).mono fun e w' hb => ⟨hb.out.1.1, ⟨_, hb.out.1.2, fun k hk => ?_, h3.trans (hb.out.2.below h3.size h2)⟩⟩
  rcases hk with hk | hk
  · exact h2 k hk
  · exact Nat.le_trans h3.size hk.1
theorem Kept.stepQ {w0 w : World} {O : Obj} {f : FuncId} {args : Array Value} {Q : Ending → Obj} (h : Kept w0 O w) (hd : DoesIn w0 f args O Q) : Calls Tryz.prog f args w fun e w' => Box (Kept w0 (Q e) w') := by
  obtain ⟨F, h1, h2, h3⟩ := h
  refine (hd w F h1 h2 h3).mono fun e w' hb => ⟨_, hb.out.1, fun k hk => ?_, h3.trans (hb.out.2.below h3.size h2)⟩
  rcases hk with hk | hk
  · exact h2 k hk
  · exact Nat.le_trans h3.size hk.1
theorem Kept.start {w0 w w' : World} {O : Obj} {G : Nat → Prop} (hB0 : Below w0.heap.size w0 w) (hB : Below w.heap.size w w') (h : O w' G) (hG : ∀ k, G k → w.heap.size ≤ k) : Kept w0 O w' :=
  ⟨G, h, fun k hk => Nat.le_trans hB0.size (hG k hk), hB0.trans (hB.mono hB0.size)⟩

/-! ### The device -/
theorem steps_does (bd : Nat) (D : Dev) : Does 18 #[.pointer (some ⟨bd, 0, none⟩)] (DevO bd D) (RetE (.int .i64 (D.taken : Int)) (DevO bd D)) := by
  intro w F h
  exact (steps_any bd F D w h).mono fun e w' ⟨he, hB⟩ => ⟨he ▸ RetE.same (DevO.good _ _) h (hB ▸ Below.refl _ _)⟩
theorem dark_does (bd : Nat) (D : Dev) : Does 41 #[.pointer (some ⟨bd, 0, none⟩)] (DevO bd D) (RetE (.bool D.off) (DevO bd D)) := by
  intro w F h
  exact (off_any bd F D w h).mono fun e w' ⟨he, hB⟩ => ⟨he ▸ RetE.same (DevO.good _ _) h (hB ▸ Below.refl _ _)⟩
theorem fall_does (bd : Nat) (D : Dev) (n : Int) (hn : -9223372036854775808 ≤ n ∧ n ≤ 9223372036854775807) : Does 10 #[.pointer (some ⟨bd, 0, none⟩), .int .i64 n] (DevO bd D) (RetE (.tuple #[]) (DevO bd (D.falls n))) := by
  intro w F h
  refine (fall_any bd F D n w h hn).mono fun e w' ⟨he, hD, hc⟩ => ⟨⟨he, hD.wide (fun _ => .inl) fun k hk => ?_⟩, hc.mono fun i _ hi => hi ▸ h.fd⟩
  rcases hk with hk | hk
  · exact hD.lt k hk
  · exact hk.2
theorem crash_does (w0 : World) (bd : Nat) (D : Dev) (v : Value) (keep : List Int) (h0 : 0 < D.safe.length) (hws : D.ws.length ≤ 1000000) (hI : Ints w0 (fun k => k < w0.heap.size) v keep) (hkl : keep.length ≤ 9223372036854775807) :
    DoesIn w0 12 #[.pointer (some ⟨bd, 0, none⟩), .agg #[v]] (DevO bd D) (RetE (.tuple #[]) (DevO bd (D.crash keep))) := by
  intro w F h hF hB
  have hI2 : Ints w (fun k => k < w0.heap.size) v keep := hI.chg (Chg.of_below hB) fun k hk _ => by omega
  exact (crash_fit bd F (fun k => k < w0.heap.size) D v keep w h (fun k hk => by have := hF k hk; omega) h0 hws hI2 hkl).mono fun e w' ⟨he, hN⟩ => ⟨⟨he, hN.at_⟩, hN.chg⟩
/-! ### Open -/
def OpenQ (bd base half : Nat) (D : Dev) (M : CellM) : Ending → Obj := fun e w F => ∃ bc, e = .returned (.tuple #[.pointer (some ⟨bc, 0, none⟩), .int .i64 0]) ∧ Pair2 (DevO bd D) (CelO bd bc base half M) w F
theorem open_does (bd base half : Nat) (D : Dev) (M : CellM) (hoff : D.off = false) (h2 : 2 ≤ half) (hin : base + 2 * half ≤ D.safe.length) (hM : openN D.seen base half = (M.num, M.was, M.last)) (hMn : M.now = M.was) (hMo : M.off = false) (hok : M.ok base half) :
    Does 13 #[.pointer (some ⟨bd, 0, none⟩), .int .i64 (base : Int), .int .i64 (half : Int)] (DevO bd D) (OpenQ bd base half D M) := by
  intro w F h
  have hl : ∀ k, F k → k < w.heap.size := h.lt
  refine (open_fit bd F D base half w h hoff h2 hin M hM hMn hMo hok).mono fun e w' ⟨bc, he, hb⟩ => ⟨⟨bc, he, F, _, DAt.below h hb.out.1, hb.out.2, fun k hk hk2 => by have := hl k hk; omega, fun _ => .inl, fun _ => .inr, fun k hk => ?_⟩, (Chg.of_below hb.out.1).mono fun i hi hk => by omega⟩
  rcases hk with hk | hk
  · exact Nat.lt_of_lt_of_le (hl k hk) hb.out.1.size
  · exact hk.2
/-- A new device. -/
theorem newdev_kept {w0 w : World} (hB0 : Below w0.heap.size w0 w) (n : Nat) (h1 : 1 ≤ n) (h2 : n ≤ 4096) :
    Calls Tryz.prog 16 #[.int .i64 (n : Int)] w fun e w' => ∃ bd, e = .returned (.tuple #[.pointer (some ⟨bd, 0, none⟩), .int .i64 0]) ∧ Box (Kept w0 (DevO bd (Dev.new n)) w') :=
  (new_fit n w h1 h2).mono fun _ _ ⟨bd, a, b, c⟩ => ⟨bd, a, ⟨Kept.start hB0 c b fun _ hk => hk.1⟩⟩
/-- Opened: the cell beside the device. -/
theorem Kept.opens {w0 w : World} {bd base half : Nat} {D : Dev} {O : Obj} (h : Kept w0 (Pair2 (DevO bd D) O) w) (g : Good O) (M : CellM) (hoff : D.off = false) (h2 : 2 ≤ half) (hin : base + 2 * half ≤ D.safe.length) (hM : openN D.seen base half = (M.num, M.was, M.last)) (hMn : M.now = M.was) (hMo : M.off = false) (hok : M.ok base half) :
    Calls Tryz.prog 13 #[.pointer (some ⟨bd, 0, none⟩), .int .i64 (base : Int), .int .i64 (half : Int)] w fun e w' => ∃ bc, e = .returned (.tuple #[.pointer (some ⟨bc, 0, none⟩), .int .i64 0]) ∧ Box (Kept w0 (Pair2 (Pair2 (DevO bd D) (CelO bd bc base half M)) O) w') :=
  (h.stepQ ((open_does bd base half D M hoff h2 hin hM hMn hMo hok).in_.beside g)).mono fun e w' hb => by
    obtain ⟨F, ⟨F1, F2, ⟨bc, he, h1⟩, h3⟩, h4⟩ := hb.out
    exact ⟨bc, he, ⟨F, ⟨F1, F2, h1, h3⟩, h4⟩⟩
theorem Kept.opens1 {w0 w : World} {bd base half : Nat} {D : Dev} (h : Kept w0 (DevO bd D) w) (M : CellM) (hoff : D.off = false) (h2 : 2 ≤ half) (hin : base + 2 * half ≤ D.safe.length) (hM : openN D.seen base half = (M.num, M.was, M.last)) (hMn : M.now = M.was) (hMo : M.off = false) (hok : M.ok base half) :
    Calls Tryz.prog 13 #[.pointer (some ⟨bd, 0, none⟩), .int .i64 (base : Int), .int .i64 (half : Int)] w fun e w' => ∃ bc, e = .returned (.tuple #[.pointer (some ⟨bc, 0, none⟩), .int .i64 0]) ∧ Box (Kept w0 (Pair2 (DevO bd D) (CelO bd bc base half M)) w') :=
  (h.stepQ ((open_does bd base half D M hoff h2 hin hM hMn hMo hok).in_)).mono fun e w' hb => by
    obtain ⟨F, ⟨bc, he, h1⟩, h4⟩ := hb.out
    exact ⟨bc, he, ⟨F, h1, h4⟩⟩
end Go.Proofs.YtoaipjpbioaneaaGreat
