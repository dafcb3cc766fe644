/- meta: a document that is being read, beside its reader. | meta: what the program reads of a document: links, points. | meta: what the program reads of a document: lists. -/
import Derived.Test.YthkfefkcjcgfkaaGreatDoorWmd
set_option linter.all false
namespace Go.Proofs.YthkfefkcjcgfkaaGreatDoor.Me
open Go Go.RowKit Go.Proofs.YthkfefkcjcgfkaaGreatDoor Go.Proofs.YthkfefkcjcgfkaaGreatDoor.Nt
/-- The cells of a row of targets. -/
def tgL (ts : List TgM) : List Value := ts.flatMap fun t => [.int .i64 t.1, .int .i64 t.2.1, .string t.2.2]
theorem tgL_snoc (ts : List TgM) (t : TgM) : tgL (ts ++ [t]) = tgL ts ++ [.int .i64 t.1, .int .i64 t.2.1, .string t.2.2] := by unfold tgL; rw [List.flatMap_append, List.flatMap_singleton]
theorem tgL_len : ∀ ts : List TgM, (tgL ts).length = ts.length * 3
  | [] => rfl
  | t :: ts => by rw [tgL, List.flatMap_cons, List.length_append, List.length_cons (a := t)]; show 3 + (tgL ts).length = _; rw [tgL_len ts]; omega
theorem tgL_get : ∀ (ts : List TgM) (i : Nat), i < ts.length → (tgL ts)[i * 3]? = some (.int .i64 (ts.getD i default).1) ∧ (tgL ts)[i * 3 + 1]? = some (.int .i64 (ts.getD i default).2.1) ∧ (tgL ts)[i * 3 + 2]? = some (.string (ts.getD i default).2.2)
  | [], i, h => by simp at h
  | t :: ts, 0, _ => ⟨rfl, rfl, rfl⟩
  | t :: ts, i + 1, h => by
    have ih := tgL_get ts i (by simpa using h)
    have e : ∀ j, (tgL (t :: ts))[(i + 1) * 3 + j]? = (tgL ts)[i * 3 + j]? := fun j => by
      have : (i + 1) * 3 + j = (i * 3 + j) + 3 := by omega
      rw [this]; rfl
    have e0 := e 0
    simp only [Nat.add_zero] at e0
    rw [e0, e 1, e 2]
    exact ih
structure TgR (B : Nat) (w : World) (v : Value) (ts : List TgM) : Prop where
  row : Pk.Row w 134 3 v ts.length (tgL ts)
  own : ∀ k, v.ownBlock = some k → B ≤ k
theorem TgR.nil (B : Nat) (w : World) : TgR B w (.slice none 0 0) [] := ⟨Pk.Row.nil _ _ _, fun k hk => by cases hk⟩
theorem TgR.chg {S : Nat → Prop} {B : Nat} {w w' : World} {v : Value} {ts : List TgM} (h : TgR B w v ts) (hc : Pk.Chg S w w') (hn : ∀ k, v.ownBlock = some k → ¬ S k) : TgR B w' v ts := ⟨h.row.chg hc hn, h.own⟩
theorem TgR.at_ {B : Nat} {w : World} {v : Value} {ts : List TgM} (h : TgR B w v ts) : TgsAt w v ts := by
  obtain ⟨a, c, rfl⟩ := h.row.shape
  refine ⟨a, c, rfl, fun h0 => ?_⟩
  obtain ⟨g, c', e, hg⟩ := h.row.some h0
  cases e
  exact ⟨g, 0, rfl, hg, fun i hi => by
    obtain ⟨k1, k2, k3⟩ := tgL_get ts i hi
    rw [Nat.zero_add]
    exact ⟨h.row.cells _ _ k1, h.row.cells _ _ k2, h.row.cells _ _ k3⟩⟩
theorem chg_row {b : Nat} {w w' : World} {v : Value} {e t : TypeId} {size n : Nat} {xs cs : List Value} (h : Pk.Row w e size v n xs) (hb : Pk.Blk w b cs t) (ht : t ≠ e) : ∀ k, v.ownBlock = some k → ¬ (k = b) := fun k hk e2 => by
  subst e2; exact h.apart hb ht hk
theorem tx_ne {B b : Nat} {w : World} {v : Value} {ids : List ByteArray} {cs : List Value} {t : TypeId} (h : TxR B w v ids) (hb : Pk.Blk w b cs t) (ht : t ≠ 9) : ∀ k, v.ownBlock = some k → ¬ (k = b) := fun k hk e2 => by
  subst e2
  exact h.apart hb ht hk
/-- The rows of a document, new since B. -/
structure DcR (B : Nat) (w : World) (z : Sl) (d : Dc) : Prop where
  p0 : TxR B w (.slice z.a0.1 d.f.r0.1.length z.a0.2) d.f.r0.1
  p1 : TxR B w (.slice z.a1.1 d.f.r1.1.length z.a1.2) d.f.r1.1
  p2 : TxR B w (.slice z.a2.1 d.f.r2.1.length z.a2.2) d.f.r2.1
  p3 : TxR B w (.slice z.a3.1 d.f.r3.1.length z.a3.2) d.f.r3.1
  pw : TxR B w (.slice z.aw.1 d.f.wt.1.length z.aw.2) d.f.wt.1
  pl : TgR B w (.slice z.al.1 d.f.ls.length z.al.2) d.f.ls
theorem DcR.at_ {B : Nat} {w : World} {z : Sl} {d : Dc} (h : DcR B w z d) : DcAt w z d := ⟨h.p0.parts, h.p1.parts, h.p2.parts, h.p3.parts, h.pw.parts, h.pl.at_⟩
/-- A reader, and the document that it is read into. -/
structure Rd2 (w0 w : World) (br bd : Nat) (t : TypeId) (l : List UInt8) (e : Int) (d : Dc) (z : Sl) : Prop where
  rat : Pk.RAt w br t l e
  blk : Pk.Blk w bd (docL d z) 46
  rows : DcR w0.heap.size w z d
  bel : Below w0.heap.size w0 w
  hr : w0.heap.size ≤ br
  hd : w0.heap.size ≤ bd
  ne : br ≠ bd
  ts : t ≠ 9
  tt : t ≠ 134
theorem DcR.chg {B b : Nat} {w w' : World} {z : Sl} {d : Dc} {cs : List Value} {t : TypeId} (h : DcR B w z d) (hb : Pk.Blk w b cs t) (h1 : t ≠ 9) (h2 : t ≠ 134) (hc : Pk.Chg (fun k => k = b) w w') : DcR B w' z d :=
  ⟨h.p0.chg hc (tx_ne h.p0 hb h1), h.p1.chg hc (tx_ne h.p1 hb h1), h.p2.chg hc (tx_ne h.p2 hb h1), h.p3.chg hc (tx_ne h.p3 hb h1), h.pw.chg hc (tx_ne h.pw hb h1), h.pl.chg hc (chg_row (w' := w') h.pl.row hb h2)⟩
theorem Rd2.rd {w0 w w' : World} {br bd : Nat} {t : TypeId} {l l' : List UInt8} {e e' : Int} {d : Dc} {z : Sl} (h : Rd2 w0 w br bd t l e d z) (hn : Pk.RNext w br t l' e' w') : Rd2 w0 w' br bd t l' e' d z :=
  ⟨hn.at_, hn.chg.blk h.blk fun e => h.ne e.symm, h.rows.chg h.rat h.ts h.tt hn.chg, h.bel.trans (hn.chg.below h.bel.size fun _ hi => by rw [hi]; exact h.hr), h.hr, h.hd, h.ne, h.ts, h.tt⟩
theorem Rd2.step {w0 w w' : World} {br bd : Nat} {t : TypeId} {l l' : List UInt8} {e e' : Int} {d : Dc} {z : Sl} (h : Rd2 w0 w br bd t l e d z) (ha : Pk.RAt w' br t l' e') (hc : Pk.Chg (fun k => k = br) w w') : Rd2 w0 w' br bd t l' e' d z := h.rd ⟨ha, hc⟩
theorem Rd2.put {w0 w : World} {br bd : Nat} {t : TypeId} {l : List UInt8} {e : Int} {d d' : Dc} {z z' : Sl} (h : Rd2 w0 w br bd t l e d z) (j : Nat) (u : Value) (he : (docL d z).set j u = docL d' z') (hrow : DcR w0.heap.size w z' d') : Rd2 w0 (w.setCell ⟨bd, j, none⟩ u) br bd t l e d' z' := by
  have hc : Pk.Chg (fun k => k = bd) w (w.setCell ⟨bd, j, none⟩ u) := (Pk.Chg.refl (fun k => k = bd) w).setCell rfl u
  have hb := h.blk.setCell j u
  rw [he] at hb
  exact ⟨hc.blk (show Pk.Blk w _ _ _ from h.rat) h.ne, hb, hrow.chg h.blk (by decide) (by decide) hc, h.bel.trans (hc.below h.bel.size fun _ hi => by rw [hi]; exact h.hd), h.hr, h.hd, h.ne, h.ts, h.tt⟩
theorem Rd2.lg {w0 w : World} {br bd : Nat} {t : TypeId} {l : List UInt8} {e : Int} {d : Dc} {z : Sl} (h : Rd2 w0 w br bd t l e d z) (x : ByteArray) : Rd2 w0 (w.setCell ⟨bd, 13, none⟩ (.string x)) br bd t l e { d with f := { d.f with lg := x } } z :=
  h.put 13 _ rfl ⟨h.rows.p0, h.rows.p1, h.rows.p2, h.rows.p3, h.rows.pw, h.rows.pl⟩
theorem Rd2.og {w0 w : World} {br bd : Nat} {t : TypeId} {l : List UInt8} {e : Int} {d : Dc} {z : Sl} (h : Rd2 w0 w br bd t l e d z) (x : ByteArray) : Rd2 w0 (w.setCell ⟨bd, 14, none⟩ (.string x)) br bd t l e { d with f := { d.f with og := x } } z :=
  h.put 14 _ rfl ⟨h.rows.p0, h.rows.p1, h.rows.p2, h.rows.p3, h.rows.pw, h.rows.pl⟩
theorem Rd2.po {w0 w : World} {br bd : Nat} {t : TypeId} {l : List UInt8} {e : Int} {d : Dc} {z : Sl} (h : Rd2 w0 w br bd t l e d z) (x : ByteArray) : Rd2 w0 (w.setCell ⟨bd, 16, none⟩ (.string x)) br bd t l e { d with f := { d.f with pt := { d.f.pt with o := x } } } z :=
  h.put 16 _ rfl ⟨h.rows.p0, h.rows.p1, h.rows.p2, h.rows.p3, h.rows.pw, h.rows.pl⟩
theorem Rd2.pn {w0 w : World} {br bd : Nat} {t : TypeId} {l : List UInt8} {e : Int} {d : Dc} {z : Sl} (h : Rd2 w0 w br bd t l e d z) (x : Int) : Rd2 w0 (w.setCell ⟨bd, 17, none⟩ (.int .i64 x)) br bd t l e { d with f := { d.f with pt := { d.f.pt with n := x } } } z :=
  h.put 17 _ rfl ⟨h.rows.p0, h.rows.p1, h.rows.p2, h.rows.p3, h.rows.pw, h.rows.pl⟩
theorem Rd2.pr {w0 w : World} {br bd : Nat} {t : TypeId} {l : List UInt8} {e : Int} {d : Dc} {z : Sl} (h : Rd2 w0 w br bd t l e d z) (x : ByteArray) : Rd2 w0 (w.setCell ⟨bd, 18, none⟩ (.string x)) br bd t l e { d with f := { d.f with pt := { d.f.pt with r := x } } } z :=
  h.put 18 _ rfl ⟨h.rows.p0, h.rows.p1, h.rows.p2, h.rows.p3, h.rows.pw, h.rows.pl⟩
theorem Rd2.oo {w0 w : World} {br bd : Nat} {t : TypeId} {l : List UInt8} {e : Int} {d : Dc} {z : Sl} (h : Rd2 w0 w br bd t l e d z) (x : Int) : Rd2 w0 (w.setCell ⟨bd, 19, none⟩ (.int .i64 x)) br bd t l e { d with f := { d.f with oo := x } } z :=
  h.put 19 _ rfl ⟨h.rows.p0, h.rows.p1, h.rows.p2, h.rows.p3, h.rows.pw, h.rows.pl⟩
theorem Rd2.hs {w0 w : World} {br bd : Nat} {t : TypeId} {l : List UInt8} {e : Int} {d : Dc} {z : Sl} (h : Rd2 w0 w br bd t l e d z) (x : ByteArray) : Rd2 w0 (w.setCell ⟨bd, 20, none⟩ (.string x)) br bd t l e { d with f := { d.f with hs := x } } z :=
  h.put 20 _ rfl ⟨h.rows.p0, h.rows.p1, h.rows.p2, h.rows.p3, h.rows.pw, h.rows.pl⟩
theorem Rd2.r0 {w0 w : World} {br bd : Nat} {t : TypeId} {l : List UInt8} {e : Int} {d : Dc} {z : Sl} (h : Rd2 w0 w br bd t l e d z) {a : Option Addr} {c : Nat} {ids : List ByteArray} (hr : TxR w0.heap.size w (.slice a ids.length c) ids) (n : Int) :
    Rd2 w0 ((w.setCell ⟨bd, 3, none⟩ (.slice a ids.length c)).setCell ⟨bd, 4, none⟩ (.int .i64 n)) br bd t l e { d with f := { d.f with r0 := (ids, n) } } { z with a0 := (a, c) } := by
  have h1 : Rd2 w0 (w.setCell ⟨bd, 3, none⟩ (.slice a ids.length c)) br bd t l e { d with f := { d.f with r0 := (ids, d.f.r0.2) } } { z with a0 := (a, c) } := h.put 3 _ rfl ⟨hr, h.rows.p1, h.rows.p2, h.rows.p3, h.rows.pw, h.rows.pl⟩
  exact h1.put 4 _ rfl ⟨h1.rows.p0, h1.rows.p1, h1.rows.p2, h1.rows.p3, h1.rows.pw, h1.rows.pl⟩
theorem Rd2.r1 {w0 w : World} {br bd : Nat} {t : TypeId} {l : List UInt8} {e : Int} {d : Dc} {z : Sl} (h : Rd2 w0 w br bd t l e d z) {a : Option Addr} {c : Nat} {ids : List ByteArray} (hr : TxR w0.heap.size w (.slice a ids.length c) ids) (n : Int) :
    Rd2 w0 ((w.setCell ⟨bd, 5, none⟩ (.slice a ids.length c)).setCell ⟨bd, 6, none⟩ (.int .i64 n)) br bd t l e { d with f := { d.f with r1 := (ids, n) } } { z with a1 := (a, c) } := by
  have h1 : Rd2 w0 (w.setCell ⟨bd, 5, none⟩ (.slice a ids.length c)) br bd t l e { d with f := { d.f with r1 := (ids, d.f.r1.2) } } { z with a1 := (a, c) } := h.put 5 _ rfl ⟨h.rows.p0, hr, h.rows.p2, h.rows.p3, h.rows.pw, h.rows.pl⟩
  exact h1.put 6 _ rfl ⟨h1.rows.p0, h1.rows.p1, h1.rows.p2, h1.rows.p3, h1.rows.pw, h1.rows.pl⟩
theorem Rd2.r2 {w0 w : World} {br bd : Nat} {t : TypeId} {l : List UInt8} {e : Int} {d : Dc} {z : Sl} (h : Rd2 w0 w br bd t l e d z) {a : Option Addr} {c : Nat} {ids : List ByteArray} (hr : TxR w0.heap.size w (.slice a ids.length c) ids) (n : Int) :
    Rd2 w0 ((w.setCell ⟨bd, 7, none⟩ (.slice a ids.length c)).setCell ⟨bd, 8, none⟩ (.int .i64 n)) br bd t l e { d with f := { d.f with r2 := (ids, n) } } { z with a2 := (a, c) } := by
  have h1 : Rd2 w0 (w.setCell ⟨bd, 7, none⟩ (.slice a ids.length c)) br bd t l e { d with f := { d.f with r2 := (ids, d.f.r2.2) } } { z with a2 := (a, c) } := h.put 7 _ rfl ⟨h.rows.p0, h.rows.p1, hr, h.rows.p3, h.rows.pw, h.rows.pl⟩
  exact h1.put 8 _ rfl ⟨h1.rows.p0, h1.rows.p1, h1.rows.p2, h1.rows.p3, h1.rows.pw, h1.rows.pl⟩
theorem Rd2.r3 {w0 w : World} {br bd : Nat} {t : TypeId} {l : List UInt8} {e : Int} {d : Dc} {z : Sl} (h : Rd2 w0 w br bd t l e d z) {a : Option Addr} {c : Nat} {ids : List ByteArray} (hr : TxR w0.heap.size w (.slice a ids.length c) ids) (n : Int) :
    Rd2 w0 ((w.setCell ⟨bd, 9, none⟩ (.slice a ids.length c)).setCell ⟨bd, 10, none⟩ (.int .i64 n)) br bd t l e { d with f := { d.f with r3 := (ids, n) } } { z with a3 := (a, c) } := by
  have h1 : Rd2 w0 (w.setCell ⟨bd, 9, none⟩ (.slice a ids.length c)) br bd t l e { d with f := { d.f with r3 := (ids, d.f.r3.2) } } { z with a3 := (a, c) } := h.put 9 _ rfl ⟨h.rows.p0, h.rows.p1, h.rows.p2, hr, h.rows.pw, h.rows.pl⟩
  exact h1.put 10 _ rfl ⟨h1.rows.p0, h1.rows.p1, h1.rows.p2, h1.rows.p3, h1.rows.pw, h1.rows.pl⟩
theorem Rd2.wt {w0 w : World} {br bd : Nat} {t : TypeId} {l : List UInt8} {e : Int} {d : Dc} {z : Sl} (h : Rd2 w0 w br bd t l e d z) {a : Option Addr} {c : Nat} {ids : List ByteArray} (hr : TxR w0.heap.size w (.slice a ids.length c) ids) (n : Int) :
    Rd2 w0 ((w.setCell ⟨bd, 11, none⟩ (.slice a ids.length c)).setCell ⟨bd, 12, none⟩ (.int .i64 n)) br bd t l e { d with f := { d.f with wt := (ids, n) } } { z with aw := (a, c) } := by
  have h1 : Rd2 w0 (w.setCell ⟨bd, 11, none⟩ (.slice a ids.length c)) br bd t l e { d with f := { d.f with wt := (ids, d.f.wt.2) } } { z with aw := (a, c) } := h.put 11 _ rfl ⟨h.rows.p0, h.rows.p1, h.rows.p2, h.rows.p3, hr, h.rows.pl⟩
  exact h1.put 12 _ rfl ⟨h1.rows.p0, h1.rows.p1, h1.rows.p2, h1.rows.p3, h1.rows.pw, h1.rows.pl⟩
theorem Rd2.ls {w0 w : World} {br bd : Nat} {t : TypeId} {l : List UInt8} {e : Int} {d : Dc} {z : Sl} (h : Rd2 w0 w br bd t l e d z) {a : Option Addr} {c : Nat} {ts : List TgM} (hr : TgR w0.heap.size w (.slice a ts.length c) ts) :
    Rd2 w0 (w.setCell ⟨bd, 15, none⟩ (.slice a ts.length c)) br bd t l e { d with f := { d.f with ls := ts } } { z with al := (a, c) } :=
  h.put 15 _ rfl ⟨h.rows.p0, h.rows.p1, h.rows.p2, h.rows.p3, h.rows.pw, hr⟩
def zz0 : Sl := ⟨(none, 0), (none, 0), (none, 0), (none, 0), (none, 0), (none, 0)⟩
theorem DcR.zero (B : Nat) (w : World) : DcR B w zz0 dc0 := ⟨TxR.nil B w, TxR.nil B w, TxR.nil B w, TxR.nil B w, TxR.nil B w, TgR.nil B w⟩
theorem Rd2.free {w0 w : World} {br bd : Nat} {t : TypeId} {l : List UInt8} {e : Int} {d : Dc} {z : Sl} (h : Rd2 w0 w br bd t l e d z) (j : Nat) : w.frozen? ⟨bd, j, none⟩ = false := h.blk.free j
theorem Rd2.below {w0 w w' : World} {br bd : Nat} {t : TypeId} {l : List UInt8} {e : Int} {d : Dc} {z : Sl} (h : Rd2 w0 w br bd t l e d z) (hb : Below w.heap.size w w') : Rd2 w0 w' br bd t l e d z :=
  h.rd ⟨(chg0 (S := fun _ => False) hb).blk h.rat fun h => h, chg0 hb⟩
end Go.Proofs.YthkfefkcjcgfkaaGreatDoor.Me

namespace Go.Proofs.YthkfefkcjcgfkaaGreatDoor.Me
open Go Go.RowKit Go.Proofs.YthkfefkcjcgfkaaGreatDoor Go.Proofs.YthkfefkcjcgfkaaGreatDoor.Nt
abbrev RPost (w0 : World) (br bd : Nat) (t : TypeId) (l : List UInt8) (er : Int) (d : Dc) (z : Sl) (e : Ending) (w' : World) : Prop := e = .returned (.tuple #[]) ∧ Rd2 w0 w' br bd t l er d z
set_option maxHeartbeats 3200000 in
set_option maxRecDepth 100000 in
theorem takelink_any {w0 w : World} {br bd : Nat} {l : List UInt8} {er : Int} {d : Dc} {z : Sl} (h : Rd2 w0 w br bd 107 l er d z) :
    Calls Tryz.prog 72 #[.pointer (some ⟨br, 0, none⟩), .pointer (some ⟨bd, 0, none⟩)] w (RPost w0 br bd 107 (lnkP l er).2.1 (lnkP l er).2.2 { d with f := { d.f with oo := (lnkP l er).1.1, hs := (lnkP l er).1.2 } } z) := by
  have hR := Box.mk h
  clear h
  have e1 : lnkP l er = ((((Pk.numR 2 l er).1, Pk.btx (Pk.rawR 32 (Pk.numR 2 l er).2.1 (Pk.numR 2 l er).2.2).1)), (Pk.rawR 32 (Pk.numR 2 l er).2.1 (Pk.numR 2 l er).2.2).2) := rfl
  rw [e1]
  go_enter Tryz.func72, Tryz.ntmps72
  have hq := Pk.rtwo_any br l er w hR.out.rat
  obtain ⟨X, hX⟩ : ∃ x, Pk.numR 2 l er = x := ⟨_, rfl⟩
  rw [hX] at hq
  replace hq := Box.mk hq
  go_wp2_with fail
  refine hq.out.mono ?_
  clear hq
  rintro r wa ⟨rfl, hn⟩
  have hR1 := hR.out.rd hn
  have cA : wa.cell? ⟨bd, 19, none⟩ = some (.int .i64 d.f.oo) := hR1.blk.cell 19
  have fA := hR1.free 19
  have hR2 := hR1.oo X.1
  obtain ⟨wb, hwb⟩ : ∃ wb, wa.setCell ⟨bd, 19, none⟩ (.int .i64 X.1) = wb := ⟨_, rfl⟩
  rw [hwb] at hR2
  replace hR := Box.mk hR2
  clear hn hR1 hR2
  have hq := Pk.rhash_any br X.2.1 X.2.2 wb hR.out.rat
  obtain ⟨Y, hY⟩ : ∃ x, Pk.rawR 32 X.2.1 X.2.2 = x := ⟨_, rfl⟩
  rw [hY] at hq
  replace hq := Box.mk hq
  go_wp2_with fail
  refine hq.out.mono ?_
  clear hq
  rintro r wa ⟨rfl, hn⟩
  have hR1 := hR.out.rd hn
  have cA : wa.cell? ⟨bd, 20, none⟩ = some (.string d.f.hs) := hR1.blk.cell 20
  have fA := hR1.free 20
  have hR2 := hR1.hs (Pk.btx Y.1)
  obtain ⟨wb, hwb⟩ : ∃ wb, wa.setCell ⟨bd, 20, none⟩ (.string (Pk.btx Y.1)) = wb := ⟨_, rfl⟩
  rw [hwb] at hR2
  replace hR := Box.mk hR2
  clear hn hR1 hR2
  go_wp2_with fail
  go_returns
  subst hY
  subst hX
  exact ⟨rfl, hR.out⟩
/-- A checkpoint as it is read. -/
def ptP : Rd (ByteArray × Int × ByteArray) := seqR (textsR 64) (seqR (Pk.numR 2) hashR)
structure Rp (w0 w : World) (br b2 : Nat) (t : TypeId) (l : List UInt8) (e : Int) (cs : List Value) : Prop where
  rat : Pk.RAt w br t l e
  blk : Pk.Blk w b2 cs 23
  chg : Pk.Chg (fun k => k = br) w0 w
  ne : br ≠ b2
  new : w0.heap.size ≤ b2
theorem Rp.rd {w0 w w' : World} {br b2 : Nat} {t : TypeId} {l l' : List UInt8} {e e' : Int} {cs : List Value} (h : Rp w0 w br b2 t l e cs) (hn : Pk.RNext w br t l' e' w') : Rp w0 w' br b2 t l' e' cs :=
  ⟨hn.at_, hn.chg.blk h.blk fun e => h.ne e.symm, h.chg.trans hn.chg fun _ _ h => h, h.ne, h.new⟩
theorem Rp.put {w0 w : World} {br b2 : Nat} {t : TypeId} {l : List UInt8} {e : Int} {cs : List Value} (h : Rp w0 w br b2 t l e cs) (j : Nat) (u : Value) : Rp w0 (w.setCell ⟨b2, j, none⟩ u) br b2 t l e (cs.set j u) :=
  ⟨((Pk.Chg.refl (fun k => k = b2) w).setCell rfl u).blk (show Pk.Blk w _ _ _ from h.rat) h.ne, h.blk.setCell j u, h.chg.trans ((Pk.Chg.refl (fun k => k = b2) w).setCell rfl u) fun i hi e => by have := h.new; have e : i = b2 := e; omega, h.ne, h.new⟩
set_option maxHeartbeats 3200000 in
set_option maxRecDepth 100000 in
theorem takepoint_any {w : World} {br : Nat} {l : List UInt8} {er : Int} (h : Pk.RAt w br 107 l er) :
    Calls Tryz.prog 73 #[.pointer (some ⟨br, 0, none⟩)] w fun e w' => e = .returned (.agg #[.string (ptP l er).1.1, .int .i64 (ptP l er).1.2.1, .string (ptP l er).1.2.2]) ∧ Pk.RNext w br 107 (ptP l er).2.1 (ptP l er).2.2 w' := by
  obtain ⟨W1, hW1⟩ : ∃ W1, w.alloc (.cells #[.string ⟨#[]⟩, .int .i64 0, .string ⟨#[]⟩] 23) = W1 := ⟨_, rfl⟩
  have hlt := Pk.Blk.lt h
  have hR : Box (Rp w W1 br w.heap.size 107 l er [.string ⟨#[]⟩, .int .i64 0, .string ⟨#[]⟩]) := ⟨by
    rw [← hW1]
    exact ⟨blk_here (show Pk.Blk w _ _ _ from h) (bel_alloc _ _), Pk.Blk.new w _ _, chg0 (bel_alloc _ _), by omega, Nat.le_refl _⟩⟩
  clear h hlt
  have e1 : ptP l er = ((Pk.btx (Pk.textR 64 l er).1, (Pk.numR 2 (Pk.textR 64 l er).2.1 (Pk.textR 64 l er).2.2).1, Pk.btx (Pk.rawR 32 (Pk.numR 2 (Pk.textR 64 l er).2.1 (Pk.textR 64 l er).2.2).2.1 (Pk.numR 2 (Pk.textR 64 l er).2.1 (Pk.textR 64 l er).2.2).2.2).1), (Pk.rawR 32 (Pk.numR 2 (Pk.textR 64 l er).2.1 (Pk.textR 64 l er).2.2).2.1 (Pk.numR 2 (Pk.textR 64 l er).2.1 (Pk.textR 64 l er).2.2).2.2).2) := rfl
  rw [e1]
  clear e1
  go_enter Tryz.func73, Tryz.ntmps73
  have hq := Pk.rtext_any br l er 64 W1 hR.out.rat
  obtain ⟨X, hX⟩ : ∃ x, Pk.textR 64 l er = x := ⟨_, rfl⟩
  rw [hX] at hq
  replace hq := Box.mk hq
  go_wp2_with fail
  refine hq.out.mono ?_
  clear hq
  rintro r wa ⟨rfl, hn⟩
  replace hR := Box.mk (hR.out.rd hn)
  clear hn
  have hq := Pk.rtwo_any br X.2.1 X.2.2 wa hR.out.rat
  obtain ⟨Y, hY⟩ : ∃ x, Pk.numR 2 X.2.1 X.2.2 = x := ⟨_, rfl⟩
  rw [hY] at hq
  replace hq := Box.mk hq
  go_wp2_with fail
  refine hq.out.mono ?_
  clear hq
  rintro r wa ⟨rfl, hn⟩
  replace hR := Box.mk (hR.out.rd hn)
  clear hn
  have hq := Pk.rhash_any br Y.2.1 Y.2.2 wa hR.out.rat
  obtain ⟨Z, hZ⟩ : ∃ x, Pk.rawR 32 Y.2.1 Y.2.2 = x := ⟨_, rfl⟩
  rw [hZ] at hq
  replace hq := Box.mk hq
  go_wp2_with fail
  refine hq.out.mono ?_
  clear hq
  rintro r wa ⟨rfl, hn⟩
  replace hR := Box.mk (hR.out.rd hn)
  clear hn
  have r0 := hR.out.blk.cell 0
  have r1 := hR.out.blk.cell 1
  have r2 := hR.out.blk.cell 2
  have f0 := hR.out.blk.free 0
  have f1 := hR.out.blk.free 1
  have f2 := hR.out.blk.free 2
  simp only [List.getElem?_cons_zero, List.getElem?_cons_succ] at r0 r1 r2
  have hE := Box.mk (((hR.out.put 0 (.string (Pk.btx X.1))).put 1 (.int .i64 Y.1)).put 2 (.string (Pk.btx Z.1)))
  clear hR
  go_wp2_with fail
  obtain ⟨wz, hwz⟩ : ∃ wz, ((wa.setCell ⟨w.heap.size, 0, none⟩ (.string (Pk.btx X.1))).setCell ⟨w.heap.size, 1, none⟩ (.int .i64 Y.1)).setCell ⟨w.heap.size, 2, none⟩ (.string (Pk.btx Z.1)) = wz := ⟨_, rfl⟩
  rw [hwz] at hE ⊢
  have z0 := hE.out.blk.cell 0
  have z1 := hE.out.blk.cell 1
  have z2 := hE.out.blk.cell 2
  simp only [List.set_cons_zero, List.set_cons_succ, List.getElem?_cons_zero, List.getElem?_cons_succ] at z0 z1 z2
  subst hZ
  subst hY
  subst hX
  exact bodyPost_ret (v := .agg #[.string _, .int .i64 _, .string _]) (by simp [results, Tryz.results73, go_sem, z0, z1, z2]) rfl ⟨rfl, hE.out.rat, hE.out.chg⟩
end Go.Proofs.YthkfefkcjcgfkaaGreatDoor.Me

namespace Go.Proofs.YthkfefkcjcgfkaaGreatDoor.Me
open Go Go.RowKit Go.Proofs.YthkfefkcjcgfkaaGreatDoor Go.Proofs.YthkfefkcjcgfkaaGreatDoor.Nt
theorem info_tg : (Tryz.prog.info? 134).map (fun i => (i.zero, i.size, i.bytes)) = some (some (.agg #[.int .i64 0, .int .i64 0, .string ByteArray.empty]), 3, 32) := by kernel_rfl
theorem set_mid3 (a r : List Value) (x y z u v t : Value) (j : Nat) (hj : a.length = j) : (((a ++ (u :: v :: t :: r)).set j x).set (j + 1) y).set (j + 2) z = a ++ [x, y, z] ++ r := by
  subst hj
  simp
structure TkL (w : World) (b : Nat) (t : TypeId) (v : Value) (ts : List TgM) (l : List UInt8) (e : Int) (w' : World) : Prop where
  row : TgR w.heap.size w' v ts
  at_ : Pk.RAt w' b t l e
  chg : Pk.Chg (fun k => k = b) w w'
set_option maxHeartbeats 3200000 in
set_option maxRecDepth 100000 in
theorem takelist_any (b : Nat) (l : List UInt8) (e : Int) (w : World) (h : Pk.RAt w b 107 l e) :
    Calls Tryz.prog 71 #[.pointer (some ⟨b, 0, none⟩)] w fun r w' => ∃ v, r = .returned v ∧ TkL w b 107 v (listP l e).1 (listP l e).2.1 (listP l e).2.2 w' := by
  have hF := Pk.rbyte_any b l e w h
  have hlt : b < w.heap.size := Pk.Blk.lt h
  obtain ⟨i0, hi0, hz0, hz1, hz2⟩ := info_parts info_tg
  have hH := Box.mk (And.intro hi0 (And.intro hz0 (And.intro hz1 hz2)))
  obtain ⟨n, hn, hn256⟩ := num1 l e
  have hT : listP l e = repR tgP n (Pk.numR 1 l e).2.1 (Pk.numR 1 l e).2.2 := by
    show ((repR tgP (Pk.numR 1 l e).1.toNat _ _).1, (repR tgP (Pk.numR 1 l e).1.toNat _ _).2) = _
    rw [hn]; rfl
  rw [hn] at hF
  obtain ⟨m, hm⟩ : ∃ m, (Pk.numR 1 l e).2.1 = m := ⟨_, rfl⟩
  obtain ⟨f, hf⟩ : ∃ f, (Pk.numR 1 l e).2.2 = f := ⟨_, rfl⟩
  rw [hm, hf] at hF hT
  obtain ⟨T, hTe⟩ : ∃ T, listP l e = T := ⟨_, rfl⟩
  rw [hTe] at hT ⊢
  have hlB := Box.mk hlt
  have hTB := Box.mk hT
  clear h hlt hn hm hf hTe hT hi0 hz0 hz1 hz2
  go_enter Tryz.func71, Tryz.ntmps71
  go_wp2_with fail
  refine hF.mono ?_
  clear hF
  rintro r w1 ⟨rfl, h1⟩
  have h1B := Box.mk h1
  clear h1
  go_wp2_with (at_make; refine wpList_make_full _ rfl (.tmp 6) (.tmp 6) 44 rfl 0 134 i0 (.agg #[.int .i64 0, .int .i64 0, .string ByteArray.empty]) 3 Tryz.underlying44 hH.out.1 hH.out.2.1 hH.out.2.2.1 .i64 .i64 _ _ n rfl rfl rfl rfl (by rw [hH.out.2.2.2]; omega) (by unfold maxLen; omega) (Nat.zero_le _) ?_; intro w2 hown hg; replace hown := Box.mk hown; replace hg := Box.mk hg)
  have hb2 : Below w1.heap.size w1 w2 := ⟨hg.out.os, hg.out.tape, hg.out.output, hg.out.size, fun k hk => hg.out.block k hk (by simp)⟩
  obtain ⟨g, hge⟩ : ∃ g, w1.heap.size = g := ⟨_, rfl⟩
  have hA0 : Box (∃ rest, rest.length = (n - 0) * 3 ∧ TkR w b 107 134 3 g n (tgL (repR tgP 0 m f).1 ++ rest) (repR tgP 0 m f).2.1 (repR tgP 0 m f).2.2 w2) := ⟨by
    have hr := hown.out
    rw [hge] at hr
    refine ⟨_, hr.1, hr, by rw [← hge]; exact h1B.out.chg.size, (chg0 (S := fun _ => False) hb2).blk h1B.out.at_ fun h => h, h1B.out.chg.trans (Pk.Chg.of_below hb2) fun i hi e => (by have := h1B.out.chg.size; omega)⟩⟩
  rw [hge]
  clear hown hg hb2 h1B hge hH
  go_loopw [4, 10] (fun _ q wr => ∃ i : Nat, i ≤ n ∧ q = .int .i64 (i : Int) ∧ Box (∃ rest, rest.length = (n - i) * 3 ∧ TkR w b 107 134 3 g n (tgL (repR tgP i m f).1 ++ rest) (repR tgP i m f).2.1 (repR tgP i m f).2.2 wr)) (fun _ q _ => n - (intOf q).toNat)
  case atStart => exact ⟨0, by omega, rfl, hA0⟩
  case round =>
    clear hA0
    obtain ⟨i, hi, rfl, hA⟩ := hrel
    by_cases hlt : i < n
    · obtain ⟨rest, hrl, hA1⟩ := hA.out
      have hsl := repR_len tgP i m f
      obtain ⟨R, hR⟩ : ∃ R, repR tgP i m f = R := ⟨_, rfl⟩
      have hnx : repR tgP (i + 1) m f = (R.1 ++ [((Pk.numR 1 R.2.1 R.2.2).1, (Pk.numR 2 (Pk.numR 1 R.2.1 R.2.2).2.1 (Pk.numR 1 R.2.1 R.2.2).2.2).1, Pk.btx (Pk.rawR 32 (Pk.numR 2 (Pk.numR 1 R.2.1 R.2.2).2.1 (Pk.numR 1 R.2.1 R.2.2).2.2).2.1 (Pk.numR 2 (Pk.numR 1 R.2.1 R.2.2).2.1 (Pk.numR 1 R.2.1 R.2.2).2.2).2.2).1)],
        (Pk.rawR 32 (Pk.numR 2 (Pk.numR 1 R.2.1 R.2.2).2.1 (Pk.numR 1 R.2.1 R.2.2).2.2).2.1 (Pk.numR 2 (Pk.numR 1 R.2.1 R.2.2).2.1 (Pk.numR 1 R.2.1 R.2.2).2.2).2.2).2) := by rw [← hR]; rfl
      rw [hR] at hA1 hsl
      obtain ⟨u1, u2, u3, rest2, rfl⟩ : ∃ u1 u2 u3 r2, rest = u1 :: u2 :: u3 :: r2 := by
        match rest, hrl with
        | [], h => simp at h; omega
        | [_], h => simp at h; omega
        | [_, _], h => simp at h; omega
        | u1 :: u2 :: u3 :: r2, _ => exact ⟨u1, u2, u3, r2, rfl⟩
      have hrl2 : Box (rest2.length = (n - (i + 1)) * 3) := ⟨by simp at hrl; omega⟩
      have hcl : (tgL R.1).length = i * 3 := by rw [tgL_len, hsl]
      have hg1 : (tgL R.1 ++ u1 :: u2 :: u3 :: rest2)[i * 3]? = some u1 := by rw [List.getElem?_append_right (by omega), hcl]; simp
      have hg2 : (tgL R.1 ++ u1 :: u2 :: u3 :: rest2)[i * 3 + 1]? = some u2 := by rw [List.getElem?_append_right (by omega), hcl, Nat.add_sub_cancel_left]; rfl
      have hg3 : (tgL R.1 ++ u1 :: u2 :: u3 :: rest2)[i * 3 + 2]? = some u3 := by rw [List.getElem?_append_right (by omega), hcl, Nat.add_sub_cancel_left]; rfl
      have hF := Pk.rbyte_any b R.2.1 R.2.2 wr hA1.at_
      obtain ⟨X, hX⟩ : ∃ X, Pk.numR 1 R.2.1 R.2.2 = X := ⟨_, rfl⟩
      rw [hX] at hF hnx
      obtain ⟨Y, hY⟩ : ∃ Y, Pk.numR 2 X.2.1 X.2.2 = Y := ⟨_, rfl⟩
      rw [hY] at hnx
      obtain ⟨Z, hZ⟩ : ∃ Z, Pk.rawR 32 Y.2.1 Y.2.2 = Z := ⟨_, rfl⟩
      rw [hZ] at hnx
      have hF2 := Box.mk fun wz (hz : Pk.RAt wz b 107 X.2.1 X.2.2) => Pk.rtwo_any b X.2.1 X.2.2 wz hz
      have hF3 := Box.mk fun wz (hz : Pk.RAt wz b 107 Y.2.1 Y.2.2) => Pk.rhash_any b Y.2.1 Y.2.2 wz hz
      rw [hY] at hF2
      rw [hZ] at hF3
      have hnxB := Box.mk hnx
      have hg1B := Box.mk (And.intro hg1 (And.intro hg2 hg3))
      have hclB := Box.mk hcl
      have hA1B := Box.mk hA1
      have hii : (i : Int) < (n : Int) := by omega
      clear hA hR hnx hX hY hZ hsl hrl hcl hg1 hg2 hg3 hA1
      go_wp2_with fail
      refine hF.mono ?_
      clear hF
      rintro r w4 ⟨rfl, h4⟩
      have hA4 := Box.mk (hA1B.out.next hlB.out h4)
      have hF := hF2.out w4 hA4.out.at_
      clear h4 hA1B hF2
      go_wp2_with fail
      refine hF.mono ?_
      clear hF
      rintro r w5 ⟨rfl, h5⟩
      have hA5 := Box.mk (hA4.out.next hlB.out h5)
      have hF := hF3.out w5 hA5.out.at_
      clear h5 hA4 hF3
      go_wp2_with fail
      refine hF.mono ?_
      clear hF
      rintro r w6 ⟨rfl, h6⟩
      have hA6 := hA5.out.next hlB.out h6
      have k1 := hA6.row.cells _ _ hg1B.out.1
      have k2 := hA6.row.cells _ _ hg1B.out.2.1
      have k3 := hA6.row.cells _ _ hg1B.out.2.2
      have g1 := Row_free hA6.row (i * 3)
      have g2 := Row_free hA6.row (i * 3 + 1)
      have g3 := Row_free hA6.row (i * 3 + 2)
      have hA7 := ((hA6.put hlB.out (i * 3) (.int .i64 X.1)).put hlB.out (i * 3 + 1) (.int .i64 Y.1)).put hlB.out (i * 3 + 2) (.string (Pk.btx Z.1))
      rw [set_mid3 _ _ _ _ _ _ _ _ _ hclB.out] at hA7
      obtain ⟨w7, hw7⟩ : ∃ w7, ((w6.setCell ⟨g, i * 3, none⟩ (.int .i64 X.1)).setCell ⟨g, i * 3 + 1, none⟩ (.int .i64 Y.1)).setCell ⟨g, i * 3 + 2, none⟩ (.string (Pk.btx Z.1)) = w7 := ⟨_, rfl⟩
      rw [hw7] at hA7
      have hA8 : Box (∃ rest, rest.length = (n - (i + 1)) * 3 ∧ TkR w b 107 134 3 g n (tgL (repR tgP (i + 1) m f).1 ++ rest) (repR tgP (i + 1) m f).2.1 (repR tgP (i + 1) m f).2.2 w7) := ⟨rest2, hrl2.out, by rw [hnxB.out, tgL_snoc]; exact hA7⟩
      clear h6 hA6 hA7 hA5
      go_wp2_with fail
      exact ⟨⟨i + 1, by omega, by go_num, hA8⟩, by simp [intOf]; omega⟩
    · obtain rfl : i = n := by omega
      have hlen := repR_len tgP i m f
      rw [← hTB.out] at hA hlen
      obtain ⟨rest, hrl, hA1⟩ := hA.out
      obtain rfl : rest = [] := List.length_eq_zero_iff.1 (by rw [hrl]; simp)
      rw [List.append_nil] at hA1
      have hA1B := Box.mk hA1
      have hlenB := Box.mk hlen
      clear hlen hA hA1 hrl hTB
      go_wp2_with fail
      go_ret
      exact ⟨_, rfl, ⟨by rw [hlenB.out]; exact hA1B.out.row, fun k hk => (by cases hk; exact hA1B.out.own)⟩, hA1B.out.at_, hA1B.out.chg⟩
end Go.Proofs.YthkfefkcjcgfkaaGreatDoor.Me
