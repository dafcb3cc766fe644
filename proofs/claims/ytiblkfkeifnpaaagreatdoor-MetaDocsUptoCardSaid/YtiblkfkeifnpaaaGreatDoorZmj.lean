/- meta: Decode of the document, its steps. -/
import Derived.Test.YtiblkfkeifnpaaaGreatDoorZmh
import Derived.Test.YtiblkfkeifnpaaaGreatDoorZmi
set_option linter.all false
namespace Go.Proofs.YtiblkfkeifnpaaaGreatDoor.Me
open Go Go.RowKit Go.Proofs.YtiblkfkeifnpaaaGreatDoor Go.Proofs.YtiblkfkeifnpaaaGreatDoor.Nt
theorem Rd2.other {w0 w : World} {br bd bq : Nat} {t : TypeId} {l : List UInt8} {e : Int} {d : Dc} {z : Sl} (h : Rd2 w0 w br bd t l e d z) (h1 : br ≠ bq) (h2 : bd ≠ bq) (h0 : w0.heap.size ≤ bq) {cs : List Value} (hq : Pk.Blk w bq cs 42)
    (hal : ∀ k, (Value.slice z.al.1 d.f.ls.length z.al.2).ownBlock = some k → k ≠ bq) (j : Nat) (u : Value) : Rd2 w0 (w.setCell ⟨bq, j, none⟩ u) br bd t l e d z := by
  have hc : Pk.Chg (fun k => k = bq) w (w.setCell ⟨bq, j, none⟩ u) := (Pk.Chg.refl (fun k => k = bq) w).setCell rfl u
  have hs : ∀ {v : Value} {ids : List ByteArray}, TxR w0.heap.size w v ids → TxR w0.heap.size (w.setCell ⟨bq, j, none⟩ u) v ids := fun hr => hr.chg hc (tx_ne hr hq (by decide))
  exact ⟨hc.blk (show Pk.Blk w _ _ _ from h.rat) h1, hc.blk h.blk h2, ⟨hs h.rows.p0, hs h.rows.p1, hs h.rows.p2, hs h.rows.p3, hs h.rows.pw, h.rows.pl.chg hc fun k hk e => hal k hk e⟩, h.bel.trans (hc.below h.bel.size fun _ hi => by rw [hi]; exact h0), h.hr, h.hd, h.ne, h.ts, h.tt⟩
theorem tx_unlike {B : Nat} {w : World} {v u : Value} {ids : List ByteArray} {n : Nat} {ys : List Value} (h : TxR B w v ids) (k : Pk.Row w 42 3 u n ys) : ∀ j, v.ownBlock = some j → ¬ (u.ownBlock = some j) := fun j hj hu =>
  Pk.Row.unlike (show Pk.Row w 9 1 v ids.length (ids.map Value.string) from h.base (Nat.zero_le _)) k (by decide) j hj hu
theorem Rd2.push {w0 w w' : World} {br bd : Nat} {t : TypeId} {l : List UInt8} {e : Int} {d : Dc} {z : Sl} (h : Rd2 w0 w br bd t l e d z) {a : Option Addr} {c n : Nat} {x : TgM} (hn : n = (d.f.ls ++ [x]).length)
    (hp : Pk.PushedRow w 42 3 (.slice z.al.1 d.f.ls.length z.al.2) (d.f.ls.length + 1) (tgL d.f.ls ++ [.int .i64 x.1, .int .i64 x.2.1, .string x.2.2]) (.slice a n c) w') :
    (∀ j, Pk.Blk w' bd (docL d z) 30 ∧ w'.frozen? ⟨bd, j, none⟩ = false) ∧ Rd2 w0 (w'.setCell ⟨bd, 15, none⟩ (.slice a n c)) br bd t l e { d with f := { d.f with ls := d.f.ls ++ [x] } } { z with al := (a, c) } := by
  subst hn
  have hc := hp.chg
  have hown : ∀ k, (Value.slice z.al.1 d.f.ls.length z.al.2).ownBlock = some k → w0.heap.size ≤ k := h.rows.pl.own
  have hblk : Pk.Blk w' bd (docL d z) 30 := hc.blk h.blk (h.rows.pl.row.apart h.blk (by decide))
  have hrat : Pk.RAt w' br t l e := hc.blk (show Pk.Blk w _ _ _ from h.rat) (h.rows.pl.row.apart (show Pk.Blk w _ _ _ from h.rat) h.tt)
  have hbel := h.bel.trans (hc.below h.bel.size hown)
  have hs : ∀ {v : Value} {ids : List ByteArray}, TxR w0.heap.size w v ids → TxR w0.heap.size w' v ids := fun hr => hr.chg hc (tx_unlike hr h.rows.pl.row)
  have hg : TgR w0.heap.size w' (.slice a (d.f.ls ++ [x]).length c) (d.f.ls ++ [x]) := ⟨by rw [tgL_snoc]; have := hp.row; simpa using this, fun k hk => by
    rcases hp.place k hk with h1 | h1
    · exact hown k h1
    · exact Nat.le_trans h.bel.size h1⟩
  refine ⟨fun j => ⟨hblk, hblk.free j⟩, ?_⟩
  have hc2 : Pk.Chg (fun k => k = bd) w' (w'.setCell ⟨bd, 15, none⟩ (.slice a (d.f.ls ++ [x]).length c)) := (Pk.Chg.refl (fun k => k = bd) w').setCell rfl _
  have hd : DcR w0.heap.size w' { z with al := (a, c) } { d with f := { d.f with ls := d.f.ls ++ [x] } } := ⟨hs h.rows.p0, hs h.rows.p1, hs h.rows.p2, hs h.rows.p3, hs h.rows.pw, hg⟩
  exact ⟨hc2.blk (show Pk.Blk w' _ _ _ from hrat) h.ne, hblk.setCell 15 _, hd.chg hblk (by decide) (by decide) hc2, hbel.trans (hc2.below hbel.size fun _ hi => by rw [hi]; exact h.hd), h.hr, h.hd, h.ne, h.ts, h.tt⟩
end Go.Proofs.YtiblkfkeifnpaaaGreatDoor.Me
