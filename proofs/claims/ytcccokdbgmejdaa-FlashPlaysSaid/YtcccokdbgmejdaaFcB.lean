/- Devices that lived through lists of operations. -/
import Derived.Test.YtcccokdbgmejdaaFcA
namespace Go.Proofs.Ytcccokdbgmejdaa
open Go.RowKit

/-- A list of operations in a slice that came in, below B. -/
structure OpsL (B : Nat) (w : World) (a : Option Addr) (os : List OpD) : Prop where
  out : 0 < os.length → ∃ cb co, a = some ⟨cb, co, none⟩ ∧ cb < B ∧ cb < w.heap.size ∧ ∀ i (hi : i < os.length), ∃ va vc, w.cell? ⟨cb, co + i * 4, none⟩ = some (.int .u8 (os[i].k.toNat : Int)) ∧ w.cell? ⟨cb, co + i * 4 + 1, none⟩ = some (.int .i64 os[i].n) ∧ w.cell? ⟨cb, co + i * 4 + 2, none⟩ = some (.string os[i].s) ∧ w.cell? ⟨cb, co + i * 4 + 3, none⟩ = some (.slice va os[i].f.length vc) ∧
    os[i].ok ∧ Ints w (fun k => k < B) (.slice va os[i].f.length vc) os[i].f
theorem OpsL.keep {B : Nat} {w w' : World} {a : Option Addr} {os : List OpD} (h : OpsL B w a os) (hb : Below B w w') : OpsL B w' a os := ⟨fun h0 => by
  obtain ⟨cb, co, e, h1, h2, hc⟩ := h.out h0
  refine ⟨cb, co, e, h1, Nat.lt_of_lt_of_le h2 hb.size, fun i hi => ?_⟩
  obtain ⟨va, vc, d0, d1, d2, d3, ho, hI⟩ := hc i hi
  exact ⟨va, vc, by rw [hb.cell (p := ⟨cb, _, none⟩) h1]; exact d0, by rw [hb.cell (p := ⟨cb, _, none⟩) h1]; exact d1, by rw [hb.cell (p := ⟨cb, _, none⟩) h1]; exact d2, by rw [hb.cell (p := ⟨cb, _, none⟩) h1]; exact d3, ho, hI.chg (Chg.of_below hb) (fun k _ hk => by omega)⟩⟩
theorem OpsL.wide {B C : Nat} {w : World} {a : Option Addr} {os : List OpD} (h : OpsL B w a os) (hB : B ≤ C) : OpsL C w a os := ⟨fun h0 => by
  obtain ⟨cb, co, e, h1, h2, hc⟩ := h.out h0
  refine ⟨cb, co, e, by omega, h2, fun i hi => ?_⟩
  obtain ⟨va, vc, d0, d1, d2, d3, ho, hI⟩ := hc i hi
  exact ⟨va, vc, d0, d1, d2, d3, ho, hI.less fun k hk => by omega⟩⟩
theorem OpsL.take {B : Nat} {w : World} {a : Option Addr} {os : List OpD} (h : OpsL B w a os) (m : Nat) : OpsL B w a (os.take m) := ⟨fun h0 => by
  obtain ⟨cb, co, e, h1, h2, hc⟩ := h.out (by rw [List.length_take] at h0; omega)
  refine ⟨cb, co, e, h1, h2, fun i hi => ?_⟩
  rw [List.length_take] at hi
  rw [List.getElem_take]
  exact hc i (by omega)⟩
theorem OpsAt.list {w : World} {a : Option Addr} {L : Nat} (h : OpsAt w a L) : ∃ os : List OpD, os.length = L ∧ OpsL w.heap.size w a os := by
  by_cases h0 : 0 < L
  · obtain ⟨cb, co, e, hl, hc⟩ := h.out h0
    have hx : ∀ i : Fin L, ∃ (o : OpD) (va : Option Addr) (vc : Nat), w.cell? ⟨cb, co + i * 4, none⟩ = some (.int .u8 (o.k.toNat : Int)) ∧ w.cell? ⟨cb, co + i * 4 + 1, none⟩ = some (.int .i64 o.n) ∧ w.cell? ⟨cb, co + i * 4 + 2, none⟩ = some (.string o.s) ∧ w.cell? ⟨cb, co + i * 4 + 3, none⟩ = some (.slice va o.f.length vc) ∧ o.ok ∧ Ints w (fun k => k < w.heap.size) (.slice va o.f.length vc) o.f := by
      intro ⟨i, hi⟩
      obtain ⟨k, n, s, v, l, d0, d1, d2, d3, hn, hs, hI, hl⟩ := hc i hi
      have hI2 := hI
      obtain ⟨va, vc, rfl, _⟩ := hI.out
      exact ⟨⟨k, n, s, l⟩, va, vc, d0, d1, d2, d3, ⟨hn, hs, hl⟩, hI2⟩
    refine ⟨List.ofFn fun i => Classical.choose (hx i), List.length_ofFn, ⟨fun _ => ⟨cb, co, e, hl, hl, fun i hi => ?_⟩⟩⟩
    rw [List.getElem_ofFn]
    have hi' : i < L := by rw [List.length_ofFn] at hi; exact hi
    exact Classical.choose_spec (hx ⟨i, hi'⟩)
  · exact ⟨[], by simp; omega, ⟨fun h => by simp at h⟩⟩

structure LSt where
  d : Dev
  t : ByteArray
  e : Int
def LSt.go (S : LSt) (o : OpD) : LSt := ⟨o.dev S.d, o.txt S.d, o.err S.d⟩
def LSt.new : LSt := ⟨Dev.new 9, noT, 0⟩
def runO (S : LSt) (os : List OpD) : LSt := os.foldl LSt.go S
theorem runO_cons (S : LSt) (o : OpD) (os : List OpD) : runO S (o :: os) = runO (S.go o) os := rfl
theorem runO_app (S : LSt) (a b : List OpD) : runO S (a ++ b) = runO (runO S a) b := List.foldl_append
/-- In a loop over operations: rest is still to be done. -/
structure LV (w0 : World) (bd : Nat) (fin : LSt) (rest : List OpD) (S : LSt) (w : World) : Prop where
  dv : DV w0.heap.size (fun _ => False) w bd S.d
  d9 : ∃ c, D9 c S.d ∧ c + rest.length ≤ 900
  run : runO S rest = fin
  k : Below w0.heap.size w0 w
theorem LV.keep {w0 w w' : World} {bd : Nat} {fin S : LSt} {rest : List OpD} (h : LV w0 bd fin rest S w) (hb : Below w.heap.size w w') : LV w0 bd fin rest S w' :=
  ⟨h.dv.keep hb, h.d9, h.run, h.k.trans (hb.mono h.k.size)⟩
theorem LV.does {w0 w : World} {bd : Nat} {fin S : LSt} {o : OpD} {rest : List OpD} (h : LV w0 bd fin (o :: rest) S w) (ho : o.ok) (va : Option Addr) (vc : Nat) (hI : Ints w0 (fun k => k < w0.heap.size) (.slice va o.f.length vc) o.f) :
    Calls Try.prog 24 #[.pointer (some ⟨bd, 0, none⟩), .agg #[.int .u8 (o.k.toNat : Int), .int .i64 o.n, .string o.s, .slice va o.f.length vc]] w fun e w' => e = .returned (.tuple #[.string (S.go o).t, .int .i64 (S.go o).e]) ∧ Box (LV w0 bd fin rest (S.go o) w') := by
  obtain ⟨c, hc, hc1⟩ := h.d9
  rw [List.length_cons] at hc1
  exact (does_any _ _ bd S.d w c o va vc h.dv hc (by omega) ho (hI.chg (Chg.of_below h.k) (fun k _ hk => by omega))).mono fun e w' ⟨a, b, d⟩ => ⟨a, ⟨b.out, ⟨c + 1, hc.does o ho, by omega⟩, h.run, h.k.trans (d.out.below h.dv.b)⟩⟩
abbrev RowO := Option Addr × Nat × List OpD
def flatO (rs : List RowO) : List OpD := (rs.map fun r => r.2.2).flatten
theorem flatO_cons (r : RowO) (rs : List RowO) : flatO (r :: rs) = r.2.2 ++ flatO rs := by simp [flatO]
structure RowsAt (w : World) (br : Nat) (rs : List RowO) : Prop where
  b : Blk w br (rs.map fun r => .slice r.1 r.2.2.length r.2.1) 22
  o : ∀ r ∈ rs, OpsL w.heap.size w r.1 r.2.2
def Lived (w : World) (fin : LSt) (e : Ending) (w' : World) : Prop :=
  ∃ bd, e = .returned (.tuple #[.pointer (some ⟨bd, 0, none⟩), .string fin.t, .int .i64 fin.e]) ∧ Box (DV w.heap.size (fun _ => False) w' bd fin.d) ∧ Box (∃ c, D9 c fin.d ∧ c ≤ 900) ∧ Box (Below w.heap.size w w')
set_option maxHeartbeats 3200000 in
set_option maxRecDepth 100000 in
theorem lived_any (w : World) (br : Nat) (rs : List RowO) (fin : LSt) (h : RowsAt w br rs) (hlen : (flatO rs).length ≤ 900) (hrl : ∀ r ∈ rs, r.2.2.length ≤ 9223372036854775807) (hm : rs.length ≤ 1000) (hf : runO LSt.new (flatO rs) = fin) :
    Calls Try.prog 23 #[.slice (some ⟨br, 0, none⟩) rs.length rs.length] w (Lived w fin) := by
  have hNw := Box.mk (new_v w.heap.size (fun _ => False) 9 w (by omega) (by omega) (Nat.le_refl _) (fun _ h => h.elim))
  replace h := Box.mk h
  replace hlen := Box.mk hlen
  replace hf := Box.mk hf
  replace hrl := Box.mk hrl
  go_enter Try.func23, Try.ntmps23
  go_wp2_with fail
  refine hNw.out.mono ?_
  rintro e w1 ⟨bd, rfl, hD1, hB1⟩
  have hL1 : Box (LV w bd fin (flatO (rs.drop 0)) LSt.new w1) := ⟨hD1.out, ⟨0, D9.new, by have := hlen.out; rw [List.drop_zero]; omega⟩, hf.out, hB1.out⟩
  clear hNw hD1 hB1 hlen hf
  go_wp2_with fail
  go_loopw [6, 7, 18] (fun s6 s7 s18 wr => ∃ (j : Nat) (S : LSt), j ≤ rs.length ∧ s6 = .int .i64 S.e ∧ s7 = .string S.t ∧ s18 = .int .i64 j ∧ Box (LV w bd fin (flatO (rs.drop j)) S wr)) (fun _ _ s18 _ => rs.length - (intOf s18).toNat)
  case atStart => exact ⟨0, LSt.new, by omega, rfl, rfl, rfl, hL1⟩
  case round =>
    clear hL1
    obtain ⟨j, S, hj, rfl, rfl, rfl, hK⟩ := hrel
    by_cases hlt : j < rs.length
    · have hd : rs.drop j = rs[j] :: rs.drop (j + 1) := List.drop_eq_getElem_cons hlt
      rw [hd, flatO_cons] at hK
      have hcell : wr.cell? ⟨br, j, none⟩ = some (.slice rs[j].1 rs[j].2.2.length rs[j].2.1) := by
        have hbk : Blk wr br _ _ := (hK.out.k.block br h.out.b.lt).trans h.out.b
        have := hbk.cell j
        rw [List.getElem?_map, List.getElem?_eq_getElem hlt] at this
        exact this
      have hO := Box.mk (h.out.o rs[j] (List.getElem_mem hlt))
      have hll := hrl.out rs[j] (List.getElem_mem hlt)
      generalize rs[j] = ro at hcell hO hK hll
      obtain ⟨a, c, os⟩ := ro
      simp only at hcell hO hK hll
      obtain ⟨tl, htl⟩ : ∃ tl, flatO (rs.drop (j + 1)) = tl := ⟨_, rfl⟩
      rw [htl] at hK
      replace htl := Box.mk htl
      go_wp2_with fail
      go_loopw [6, 7, 24] (fun s6 s7 s24 wr => ∃ (i : Nat) (S : LSt), i ≤ os.length ∧ s6 = .int .i64 S.e ∧ s7 = .string S.t ∧ s24 = .int .i64 i ∧ Box (LV w bd fin (os.drop i ++ tl) S wr)) (fun _ _ s24 _ => os.length - (intOf s24).toNat)
      case atStart => exact ⟨0, S, by omega, rfl, rfl, rfl, hK⟩
      case round =>
        clear hK hcell
        obtain ⟨i, S, hi, rfl, rfl, rfl, hK⟩ := hrel
        by_cases hlt2 : i < os.length
        · have hd2 : os.drop i = os[i] :: os.drop (i + 1) := List.drop_eq_getElem_cons hlt2
          rw [hd2, List.cons_append] at hK
          obtain ⟨cb, co, rfl, hcb, hcw, hcs⟩ := hO.out.out (by omega)
          obtain ⟨va, vc, d0, d1, d2, d3, hok, hIv⟩ := hcs i hlt2
          generalize os[i] = o at d0 d1 d2 d3 hok hIv hK
          rw [← hK.out.k.cell (p := ⟨cb, _, none⟩) hcb] at d0 d1 d2 d3
          have hnew := Blk.new wr [.int .u8 (o.k.toNat : Int), .int .i64 o.n, .string o.s, .slice va o.f.length vc] 32
          obtain ⟨wn, hwn⟩ : ∃ wn, wr.alloc (.cells #[.int .u8 (o.k.toNat : Int), .int .i64 o.n, .string o.s, .slice va o.f.length vc] 32) = wn := ⟨_, rfl⟩
          have hKn := hK.out.keep (hwn ▸ (Below.refl _ _).alloc (Nat.le_refl _) _ : Below wr.heap.size wr wn)
          rw [hwn] at hnew
          obtain ⟨bo, hbo⟩ : ∃ bo, wr.heap.size = bo := ⟨_, rfl⟩
          rw [hbo] at hnew
          have e0 : wn.cell? ⟨bo, 0, none⟩ = some (.int .u8 (o.k.toNat : Int)) := hnew.cell 0
          have e1 : wn.cell? ⟨bo, 1, none⟩ = some (.int .i64 o.n) := hnew.cell 1
          have e2 : wn.cell? ⟨bo, 2, none⟩ = some (.string o.s) := hnew.cell 2
          have e3 : wn.cell? ⟨bo, 3, none⟩ = some (.slice va o.f.length vc) := hnew.cell 3
          have hC := Box.mk (hKn.does hok va vc hIv)
          replace hnew := Box.mk hnew
          clear hcs hK hKn hIv hok hd2 hd
          generalize o.f.length = vl at *
          go_wp2_with fail
          refine hC.out.mono ?_
          rintro e w6 ⟨rfl, hK6⟩
          clear hC e0 e1 e2 e3 d0 d1 d2 d3
          generalize S.go o = S2 at hK6 ⊢
          go_wp2_with fail
          exact ⟨⟨i + 1, S2, by omega, rfl, rfl, by go_num, hK6⟩, by simp [intOf]; omega⟩
        · have hd2 : os.drop i = [] := List.drop_eq_nil_of_le (by omega)
          rw [hd2, List.nil_append] at hK
          clear hd2 hd
          go_wp2_with fail
          refine ⟨⟨j + 1, S, by omega, rfl, rfl, by go_num, ?_⟩, by simp [intOf]; omega⟩
          rw [htl.out]; exact hK
    · have hd : rs.drop j = [] := List.drop_eq_nil_of_le (by omega)
      rw [hd] at hK
      have hr : S = fin := hK.out.run
      subst hr
      go_wp2_with fail
      go_returns
      obtain ⟨c, hc, hc1⟩ := hK.out.d9
      exact ⟨bd, rfl, ⟨hK.out.dv⟩, ⟨⟨c, hc, by omega⟩⟩, ⟨hK.out.k⟩⟩
end Go.Proofs.Ytcccokdbgmejdaa
