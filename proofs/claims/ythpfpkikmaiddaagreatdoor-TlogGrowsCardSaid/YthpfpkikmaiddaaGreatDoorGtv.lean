/- A log's name and key; the device's calls beside a log; a log opened again. | TlogGrows: a log and the leaves that it must have, beside each other, round for round. -/
import Derived.Test.YthpfpkikmaiddaaGreatDoorGtq
import Derived.Test.YthpfpkikmaiddaaGreatDoorGck
set_option linter.all false
set_option linter.unusedVariables false
set_option linter.unusedSimpArgs false
namespace Go.Proofs.YthpfpkikmaiddaaGreatDoor.Tg
open Go Go.RowKit Go.Proofs.YthpfpkikmaiddaaGreatDoor.Pk Go.Proofs.YthpfpkikmaiddaaGreatDoor.Nt

def sLog : ByteArray := ⟨#[108, 111, 103]⟩
theorem info_cfg : (Tryz.prog.info? 33).map (·.size) = some 3 := by kernel_rfl
theorem hblk (o : ByteArray) (n : Int) (w : World) : (w.alloc (.cells #[.string o, .string ⟨#[108, 111, 103]⟩, .int .i64 n] 33)).heap[w.heap.size]? = some (.cells #[.string o, .string ⟨#[108, 111, 103]⟩, .int .i64 n] 33 (0, 0)) :=
  Pk.Blk.new w [.string o, .string ⟨#[108, 111, 103]⟩, .int .i64 n] _
set_option maxHeartbeats 800000 in
theorem config_low (o : ByteArray) (n : Int) (w : World) (hn : ¬ (3 < n ∧ n ≤ 4)) : Calls Tryz.prog 8 #[.string o, .int .i64 n] w fun e w' => e = .returned (cfgV o sLog n) ∧ Below w.heap.size w w' := by
  unfold cfgV sLog
  have hb := Box.mk (bel_alloc w (.cells #[.string o, .string ⟨#[108, 111, 103]⟩, .int .i64 n] 33))
  by_cases h3 : n > 3
  · have h4 : ¬ n ≤ 4 := by omega
    clear hn
    go_enter Tryz.func8, Tryz.ntmps8
    go_wp2_with fail
    refine bodyPost_ret (v := .agg #[.string o, .string ⟨#[108, 111, 103]⟩, .int .i64 n]) (results_cell_row (p := 4) rfl _ _ w.heap.size 33 #[.string o, .string ⟨#[108, 111, 103]⟩, .int .i64 n] (0, 0) _ rfl (hblk o n w) Tryz.underlying33 rfl info_cfg) rfl ⟨rfl, hb.out⟩
  · clear hn
    go_enter Tryz.func8, Tryz.ntmps8
    go_wp2_with fail
    refine bodyPost_ret (v := .agg #[.string o, .string ⟨#[108, 111, 103]⟩, .int .i64 n]) (results_cell_row (p := 4) rfl _ _ w.heap.size 33 #[.string o, .string ⟨#[108, 111, 103]⟩, .int .i64 n] (0, 0) _ rfl (hblk o n w) Tryz.underlying33 rfl info_cfg) rfl ⟨rfl, hb.out⟩
section
variable {w0 w : World} {p : Pl} {b h : Nat} {c : Cfg} {D : Dev} {L : LogM} {vl vh vp : Value} {X : Pk.Obj}
theorem tfall_any (hk : Kept w0 (Pair2 (TLo p b h c D L vl vh vp) X) w) (gX : Pk.Good X) (n : Int) (hn : -9223372036854775808 ≤ n ∧ n ≤ 9223372036854775807) :
    Calls Tryz.prog 10 #[.pointer (some ⟨p.bd, 0, none⟩), .int .i64 n] w fun e w' => e = .returned (.tuple #[]) ∧ Box (Kept w0 (Pair2 (TLo p b h c (D.falls n) L vl vh vp) X) w') :=
  kept_step hk (lift_dev gX (fall_does p.bd D n hn).in_)
theorem toff_any (hk : Kept w0 (Pair2 (TLo p b h c D L vl vh vp) X) w) (gX : Pk.Good X) :
    Calls Tryz.prog 14 #[.pointer (some ⟨p.bd, 0, none⟩)] w fun e w' => e = .returned (.bool D.off) ∧ Box (Kept w0 (Pair2 (TLo p b h c D L vl vh vp) X) w') :=
  kept_step hk (lift_dev gX (dark_does p.bd D).in_)
theorem tcrash_any (hk : Kept w0 (Pair2 (TLo p b h c D L vl vh vp) X) w) (gX : Pk.Good X) (v : Value) (keep : List Int) (h0 : 0 < D.safe.length) (hws : D.ws.length ≤ 1000000) (hI : Ints w0 (fun k => k < w0.heap.size) v keep) (hkl : keep.length ≤ 9223372036854775807) :
    Calls Tryz.prog 15 #[.pointer (some ⟨p.bd, 0, none⟩), .agg #[v]] w fun e w' => e = .returned (.tuple #[]) ∧ Box (Kept w0 (Pair2 (TLo p b h c (D.crash keep) L vl vh vp) X) w') :=
  kept_step hk (lift_dev gX (crash_does w0 p.bd D v keep h0 hws hI hkl))
/-- Opened again on the same device: the old log's things are let go. -/
theorem treopen_any {num last k : Nat} {a n u : Option Bs} {ls : List ByteArray} (hE : Env w0) (hk : Kept w0 (Pair2 (TLo p b h c D L vl vh vp) X) w) (gX : Pk.Good X) (hc : c.ok) (hS : Sound b h D (atM num (lgC a n u) last)) (s : CtSays a u ls k) (hin : b + 2 * h ≤ D.safe.length) :
    Calls Tryz.prog 9 #[.pointer (some ⟨p.bd, 0, none⟩), .int .i64 (b : Int), .int .i64 (h : Int), cfgV c.o c.s (c.h : Int)] w fun e w' => ∃ p' : Pl, p'.bd = p.bd ∧ e = .returned (.tuple #[.pointer (some ⟨p'.bl, 0, none⟩), .int .i64 0]) ∧ Box (Kept w0 (Pair2 (TLx p' b h c D ⟨atM num (lgC a n u) last, skipN 0 (usI (lgC a n u)) c.h, ls, []⟩) X) w') := by
  have g2 : Pk.Good (Pair2 (KeyO p.bk c.s c.h L.u) (LrO p.bl c.o p.bk p.bc L.lv L.pd vl vh vp)) := Pair2.good (KeyO.good _ _ _ _) (LrO.good _ _ _ _ _ _ _ _ _)
  have hk1 : Kept w0 (Pair2 (DevO p.bd D) X) w := kept_cv hk (cvAssoc.trans (cvAssoc.trans (cvRight ((cvDropL (Pair2.good g2 gX)).trans (cvDropL gX)))))
  obtain ⟨r1, _, r3⟩ := s.read (n := n)
  exact (topen_any (M := atM num (lgC a n u) last) (ls := ls) hE gX hk1 hc hS.calm.off hS.ok.half.1 hin hS.opens rfl rfl hS.ok r1 r3).mono fun e w' ⟨bl, bc, bk, he, hk2⟩ => ⟨⟨p.bd, bl, bc, bk⟩, rfl, he, hk2⟩
end
end Go.Proofs.YthpfpkikmaiddaaGreatDoor.Tg

namespace Go.Proofs.YthpfpkikmaiddaaGreatDoor.Tg
open Go Go.RowKit Go.Proofs.YthpfpkikmaiddaaGreatDoor.Pk Go.Proofs.YthpfpkikmaiddaaGreatDoor.Nt

theorem kept_push {w0 w w' : World} {v v' : Value} {P : List ByteArray} {x : ByteArray} {Y : Pk.Obj} (gY : Pk.Good Y) (hk : Kept w0 (Pair2 (RowO v P) Y) w) (hp : PushedT 0 w v (P ++ [x]) v' w') : Kept w0 (Pair2 (RowO v' (P ++ [x])) Y) w' :=
  kept_move hk gY fun F k => ⟨⟨hp.row, fun i hi => (by
    rcases hp.place i hi with e | e
    · exact .inl (k.2.1 i e)
    · exact .inr ⟨e, by have := (hp.row.own i hi).2; simpa using this⟩), fun i hi => (by
    rcases hi with hi | hi
    · exact Nat.lt_of_lt_of_le (k.2.2 i hi) hp.chg.size
    · exact hi.2)⟩, hp.chg.mono fun i _ e => k.2.1 i e⟩
def cG : Cfg := ⟨⟨#[111]⟩, sLog, 2⟩
theorem cG_ok : cG.ok := ⟨by decide +kernel, by decide, by decide⟩
/-- What lies beside the log: the leaves that it must have, its name and key. -/
def GX (bg : Nat) (vh : Value) (P : List ByteArray) : Pk.Obj := Pair2 (RowO vh P) (BlO bg [.string cG.o, .string cG.s, .int .i64 (cG.h : Int)] 33)
theorem GX.good (bg : Nat) (vh : Value) (P : List ByteArray) : Pk.Good (GX bg vh P) := Pair2.good (RowO.good _ _) (BlO.good _ _ _)
/-- Between two rounds: the log is at rest and has just the leaves that it must. -/
structure GI (w0 : World) (bg : Nat) (i : Nat) (p : Pl) (D : Dev) (L : LogM) (a n u : Option Bs) (vh : Value) (w : World) : Prop where
  k : Kept w0 (Pair2 (TLx p 0 200 cG D L) (GX bg vh L.lv)) w
  r : LogR 0 200 cG D L a n u
  f : D.fall = 0
  len : D.safe.length = 400
  pd : L.pd = []
  s : CtSays a u L.lv L.u
  nl : opL n ≤ 3310
  bd : Bd (3 * i) D L.C
  few : L.lv.length ≤ i
  sz : ∀ x ∈ L.lv, x.size ≤ 200
theorem lvB_cap (l : List ByteArray) (m : Nat) (h : ∀ x ∈ l, x.size ≤ m) : (lvB l).length ≤ l.length * (2 + m) := by
  induction l with
  | nil => simp [lvB]
  | cons x l ih =>
    have h1 := ih fun y hy => h y (List.mem_cons_of_mem _ hy)
    have h2 := h x List.mem_cons_self
    have e : lvB (x :: l) = Pk.textL x ++ lvB l := by rw [show x :: l = [x] ++ l from rfl, lvB_append, lvB_one]
    rw [e, List.length_append, textL_len, List.length_cons, Nat.succ_mul]
    omega
/-- Behind Sequence and Issue, with power: the log has just the leaves that it must. -/
structure GR (w0 : World) (bg : Nat) (i : Nat) (p : Pl) (D : Dev) (L : LogM) (a n u : Option Bs) (vh : Value) (w : World) : Prop where
  k : Kept w0 (Pair2 (TLx p 0 200 cG D L) (GX bg vh L.lv)) w
  r : LogR 0 200 cG D L a n u
  len : D.safe.length = 400
  pd : L.pd = []
  s : CtSays a u L.lv L.u
  nl : opL n ≤ 3310
  bd : Bd (3 * i + 3) D L.C
  few : L.lv.length ≤ i + 1
  sz : ∀ x ∈ L.lv, x.size ≤ 200
/-- One of these contents is a log's with such leaves. -/
def GCt (Q : List ByteArray → Prop) (ct : Ct) : Prop := ∃ a n u ls k, ct = lgC a n u ∧ CtSays a u ls k ∧ opL n ≤ 3310 ∧ k ≤ 4 ∧ Q ls
/-- The power has gone: the log in memory is of no use any more. -/
structure GO (w0 : World) (bg : Nat) (i : Nat) (p : Pl) (D : Dev) (L : LogM) (vh : Value) (P : List ByteArray) (Q : List ByteArray → Prop) (w : World) : Prop where
  k : Kept w0 (Pair2 (TLx p 0 200 cG D L) (GX bg vh P)) w
  o : ∃ C, LogO 0 200 D L (GCt C) (3 * i + 2) ∧ ∀ ls, C ls → Q ls
  len : D.safe.length = 400
  t : D.taken ≤ 1000 * (3 * i + 3)
  w : D.ws.length ≤ 1000 * (3 * i + 3)
theorem lvB_200 (l : List ByteArray) (h : ∀ x ∈ l, x.size ≤ 200) (hn : l.length ≤ 21) : (lvB l).length ≤ 4242 := by
  have := lvB_cap l 200 h
  have : l.length * (2 + 200) ≤ 21 * 202 := Nat.mul_le_mul hn (Nat.le_refl _)
  omega
theorem opLv {a : Option Bs} {u : Option Bs} {ls : List ByteArray} {k : Nat} (s : CtSays a u ls k) (h : ∀ x ∈ ls, x.size ≤ 200) (hn : ls.length ≤ 21) : opL a ≤ 4252 ∧ opL u ≤ 14 := by
  refine ⟨?_, ?_⟩
  · rcases s.lv with ⟨rfl, _⟩ | rfl
    · exact Nat.zero_le _
    · have := lvB_200 ls h hn; simp only [opL]; omega
  · rcases s.us with ⟨rfl, _⟩ | rfl
    · exact Nat.zero_le _
    · have : (usB k).length = 4 := Pk.beN_length _ _
      simp only [opL]; omega
theorem says_snoc {a u : Option Bs} {ls : List ByteArray} {k : Nat} (s : CtSays a u ls k) (x : ByteArray) (h : ∀ y ∈ ls ++ [x], y.size ≤ 200) (hn : (ls ++ [x]).length ≤ 21) : CtSays (some (lvB (ls ++ [x]))) u (ls ++ [x]) k :=
  ⟨.inr rfl, fun y hy => Nat.le_trans (h y hy) (by omega), by omega, by have := lvB_200 _ h hn; omega, s.us, s.low⟩
/-- A leaf is added: it waits. -/
theorem g_add {c : Cfg} {b h : Nat} {D : Dev} {L : LogM} {a n u : Option Bs} (k : LogR b h c D L a n u) (x : ByteArray) (hx : x.size ≤ 200) (hp : L.pd = []) (h2 : ∀ y ∈ L.lv, y.size ≤ 200) (hn : L.lv.length ≤ 20) :
    addE L x = 0 ∧ (addM L x).lv = L.lv ∧ (addM L x).pd = [x] ∧ (addM L x).u = L.u ∧ (addM L x).C = L.C ∧ LogR b h c D (addM L x) a n u := by
  have hb := lvB_200 L.lv h2 (by omega)
  have he : addE L x = 0 := by
    unfold addE
    rw [if_neg (by omega), hp, List.append_nil, if_neg (by simp; omega)]
  have hm : addM L x = { L with pd := L.pd ++ [x] } := by unfold addM; rw [if_pos he]
  have hok := addM_ok k.ok x
  refine ⟨he, by rw [hm], by rw [hm, hp]; rfl, by rw [hm], by rw [hm], ⟨by rw [hm]; exact k.snd, by rw [hm]; exact k.now, by rw [hm]; exact k.was, hok⟩⟩
section
variable {w0 w : World} {bg i : Nat} {vh : Value} {p : Pl} {D : Dev} {L : LogM} {a n u : Option Bs}
/-- Sequence. -/
theorem g_seq (hE : Env w0) {P : List ByteArray} {x : ByteArray} (hk : Kept w0 (Pair2 (TLx p 0 200 cG D L) (GX bg vh P)) w) (r : LogR 0 200 cG D L a n u) (hlv : L.lv = P) (hpd : L.pd = [x]) (hlen : D.safe.length = 400) (s : CtSays a u P L.u) (hu4 : L.u ≤ 4)
    (hn : opL n ≤ 3310) (hb : Bd (3 * i) D L.C) (hi : i ≤ 19) (hP : P.length ≤ i) (hsz : ∀ y ∈ P ++ [x], y.size ≤ 200) :
    Calls Tryz.prog 12 #[.pointer (some ⟨p.bl, 0, none⟩)] w fun e w' =>
      (e = .returned (.tuple #[.int .i64 ((P.length + 1 : Nat) : Int), .int .i64 0]) ∧ Box (∃ D2 L2, Kept w0 (Pair2 (TLx p 0 200 cG D2 L2) (GX bg vh P)) w' ∧ LogR 0 200 cG D2 L2 (some (lvB (P ++ [x]))) n u ∧ L2.lv = P ++ [x] ∧ L2.pd = [] ∧ L2.u = L.u ∧ D2.safe.length = 400 ∧ Bd (3 * i + 1) D2 L2.C)) ∨
      (e = .returned (.tuple #[.int .i64 0, .int .i64 7]) ∧ Box (∃ D2 L2, GO w0 bg i p D2 L2 vh P (fun ls => ls = P ∨ ls = P ++ [x]) w')) := by
  obtain ⟨vl, vh2, vp, hk⟩ := tlx_open hk
  have hP1 : (P ++ [x]).length ≤ 21 := by simp; omega
  have hap : L.lv ++ L.pd = P ++ [x] := by rw [hlv, hpd]
  have hS := tsequence_any hE hk (GX.good _ _ _) r.ok hb (by omega)
  have hbd := seq_bd (b := 0) (h := 200) (D := D) (L := L) hb (by decide)
  have hlvb := lvB_200 (P ++ [x]) hsz hP1
  have hou := (opLv s (fun y hy => hsz y (List.mem_append_left _ hy)) (by omega)).2
  have hnum := hb.n
  rcases r.seq (by rw [hpd]; simp) (by omega) (by rw [hap]; simp only [opL] at hn hou ⊢; omega) with ⟨q1, q2, q3, q4, q5, q6, q7, q8, q9⟩ | ⟨q1, q2, _, q4, q5⟩
  · rw [q1, q2, hap, show (P ++ [x]).length = P.length + 1 by simp] at hS
    rw [hap] at q3 q7
    exact hS.mono fun e w' ⟨he, hk2⟩ => .inl ⟨he, ⟨_, _, hk2.out, q7, q3, q4, q5, q9.trans hlen, hbd⟩⟩
  · rw [q1, q2] at hS
    rw [hap] at q4
    refine hS.mono fun e w' ⟨he, hk2⟩ => .inr ⟨he, ⟨_, _, hk2.out, ⟨fun ls => ls = P ∨ ls = P ++ [x], ⟨q4.off, q4.coff, ?_⟩, fun _ h => h⟩, q5.trans hlen, by have := hbd.t; omega, by have := hbd.w; omega⟩⟩
    obtain ⟨D0, num, ct, ct', last, h1, h2, h3, h4⟩ := q4.aft
    have hc : ∀ ct, (ct = lgC a n u ∨ ct = lgC (some (lvB (P ++ [x]))) n u) → GCt (fun ls => ls = P ∨ ls = P ++ [x]) ct := by
      rintro ct (rfl | rfl)
      · exact ⟨a, n, u, P, L.u, rfl, s, hn, hu4, .inl rfl⟩
      · exact ⟨_, n, u, P ++ [x], L.u, rfl, says_snoc s x hsz hP1, hn, hu4, .inr rfl⟩
    exact ⟨D0, num, ct, ct', last, h1, hc _ h2, hc _ h3, by omega⟩
/-- Issue. -/
theorem g_iss (hE : Env w0) (hk : Kept w0 (Pair2 (TLx p 0 200 cG D L) (GX bg vh L.lv)) w) (r : LogR 0 200 cG D L a n u) (hpd : L.pd = []) (hlen : D.safe.length = 400) (s : CtSays a u L.lv L.u) (hn : opL n ≤ 3310) (hb : Bd (3 * i + 1) D L.C) (hi : i ≤ 19) (hP : L.lv.length ≤ i + 1) (hsz : ∀ y ∈ L.lv, y.size ≤ 200) :
    Calls Tryz.prog 13 #[.pointer (some ⟨p.bl, 0, none⟩)] w fun e w' => ∃ t E, e = .returned (.tuple #[.string t, .int .i64 E]) ∧
      Box ((∃ D2 L2 a2 n2 u2, GR w0 bg i p D2 L2 a2 n2 u2 vh w' ∧ L2.lv = L.lv) ∨ (∃ D2 L2, GO w0 bg i p D2 L2 vh L.lv (fun ls => ls = L.lv) w')) := by
  obtain ⟨vl, vh2, vp, hk⟩ := tlx_open hk
  have hS := tissue_any hE hk (GX.good _ _ _) cG_ok r.ok hb (by omega) (by decide)
  have hbd := iss_bd (b := 0) (h := 200) (c := cG) (D := D) (L := L) hb (by decide)
  have ho := opLv s hsz (by omega)
  have hnum := hb.n
  have hu4 : L.u ≤ 4 := by have := r.ok.u; exact this
  have hnt := nt_short cG_ok r.ok
  have hul : ∀ k, (usB k).length = 4 := fun k => Pk.beN_length _ _
  refine hS.mono fun e w' ⟨he, hk2⟩ => ⟨_, _, he, ⟨?_⟩⟩
  rcases r.iss cG_ok (by omega) (by omega) with ⟨_, _, _, m, d⟩ | ⟨_, _, _, m, d⟩ | ⟨_, hu, _, _, lv, pd, us, num, r2, fall, len⟩ | ⟨hu, _, _, o, len⟩ | ⟨_, hu, _, _, o, len⟩
  · rw [m, d] at hk2 hbd
    exact .inl ⟨D, L, a, n, u, ⟨hk2.out, r, hlen, hpd, s, hn, hbd.up (by omega), hP, hsz⟩, rfl⟩
  · rw [m, d] at hk2 hbd
    exact .inl ⟨D, L, a, n, u, ⟨hk2.out, r, hlen, hpd, s, hn, hbd.up (by omega), hP, hsz⟩, rfl⟩
  · have hu5 : L.u + 1 ≤ 4 := hu
    refine .inl ⟨_, _, a, _, _, ⟨by rw [lv]; exact hk2.out, r2, len.trans hlen, pd.trans hpd, ?_, by simp only [opL]; omega, hbd.up (by omega), by rw [lv]; exact hP, by rw [lv]; exact hsz⟩, lv⟩
    rw [lv, us]
    exact ⟨s.lv, s.each, s.few, s.fit, .inr rfl, by omega⟩
  · have hu5 : L.u + 1 ≤ 4 := hu
    refine .inr ⟨_, _, hk2.out, ⟨fun ls => ls = L.lv, ⟨o.off, o.coff, ?_⟩, fun _ h => h⟩, len.trans hlen, by have := hbd.t; omega, by have := hbd.w; omega⟩
    obtain ⟨D0, nm, ct, ct', last, h1, h2, h3, h4⟩ := o.aft
    have hc : ∀ ct, (ct = lgC a n u ∨ ct = lgC a n (some (usB (L.u + 1)))) → GCt (fun ls => ls = L.lv) ct := by
      rintro ct (rfl | rfl)
      · exact ⟨a, n, u, L.lv, L.u, rfl, s, hn, hu4, rfl⟩
      · exact ⟨a, n, _, L.lv, L.u + 1, rfl, ⟨s.lv, s.each, s.few, s.fit, .inr rfl, by omega⟩, hn, hu5, rfl⟩
    exact ⟨D0, nm, ct, ct', last, h1, hc _ h2, hc _ h3, by omega⟩
  · have hu5 : L.u + 1 ≤ 4 := hu
    refine .inr ⟨_, _, hk2.out, ⟨fun ls => ls = L.lv, ⟨o.off, o.coff, ?_⟩, fun _ h => h⟩, len.trans hlen, by have := hbd.t; omega, by have := hbd.w; omega⟩
    obtain ⟨D0, nm, ct, ct', last, h1, h2, h3, h4⟩ := o.aft
    have hs5 : CtSays a (some (usB (L.u + 1))) L.lv (L.u + 1) := ⟨s.lv, s.each, s.few, s.fit, .inr rfl, by omega⟩
    have hc : ∀ ct, (ct = lgC a n (some (usB (L.u + 1))) ∨ ct = lgC a (some (ntT L cG).data.toList) (some (usB (L.u + 1)))) → GCt (fun ls => ls = L.lv) ct := by
      rintro ct (rfl | rfl)
      · exact ⟨a, n, _, L.lv, L.u + 1, rfl, hs5, hn, hu5, rfl⟩
      · exact ⟨a, _, _, L.lv, L.u + 1, rfl, hs5, by simp only [opL]; omega, hu5, rfl⟩
    exact ⟨D0, nm, ct, ct', last, h1, hc _ h2, hc _ h3, by omega⟩
/-- The power stays: no fall any more, the next round. -/
theorem g_calm {a n u : Option Bs} (g : GR w0 bg i p D L a n u vh w) :
    Calls Tryz.prog 10 #[.pointer (some ⟨p.bd, 0, none⟩), .int .i64 0] w fun e w' => e = .returned (.tuple #[]) ∧ Box (∃ D2, GI w0 bg (i + 1) p D2 L a n u vh w') := by
  obtain ⟨vl, vh2, vp, hk⟩ := tlx_open g.k
  refine (tfall_any hk (GX.good _ _ _) 0 (by decide)).mono fun e w' ⟨he, hk2⟩ => ⟨he, ⟨D.falls 0, tlx_close hk2.out, ⟨⟨⟨g.r.snd.calm.ok.falls 0, g.r.snd.calm.off, g.r.snd.calm.ws⟩, g.r.snd.region, g.r.snd.ok, g.r.snd.off⟩, g.r.now, g.r.was, g.r.ok⟩, rfl, g.len, g.pd, g.s, g.nl, ?_, g.few, g.sz⟩⟩
  exact ⟨by have := g.bd.t; show D.taken ≤ _; omega, by have := g.bd.w; show D.ws.length ≤ _; omega, by have := g.bd.n; omega, by show (max (0 : Int) 0).toNat ≤ _; decide⟩
/-- The device's word on its power. -/
theorem g_on {a n u : Option Bs} (g : GR w0 bg i p D L a n u vh w) :
    Calls Tryz.prog 14 #[.pointer (some ⟨p.bd, 0, none⟩)] w fun e w' => e = .returned (.bool false) ∧ Box (GR w0 bg i p D L a n u vh w') := by
  obtain ⟨vl, vh2, vp, hk⟩ := tlx_open g.k
  have := toff_any hk (GX.good _ _ _)
  rw [g.r.snd.calm.off] at this
  exact this.mono fun e w' ⟨he, hk2⟩ => ⟨he, ⟨{ g with k := tlx_close hk2.out }⟩⟩
theorem g_gone {P : List ByteArray} {Q : List ByteArray → Prop} (g : GO w0 bg i p D L vh P Q w) :
    Calls Tryz.prog 14 #[.pointer (some ⟨p.bd, 0, none⟩)] w fun e w' => e = .returned (.bool true) ∧ Box (GO w0 bg i p D L vh P Q w') := by
  obtain ⟨vl, vh2, vp, hk⟩ := tlx_open g.k
  obtain ⟨C, ho, _⟩ := g.o
  have := toff_any hk (GX.good _ _ _)
  rw [ho.off] at this
  exact this.mono fun e w' ⟨he, hk2⟩ => ⟨he, ⟨{ g with k := tlx_close hk2.out }⟩⟩
/-- The power is back, the log isn't opened yet. -/
structure GB (w0 : World) (bg : Nat) (i : Nat) (p : Pl) (D : Dev) (L : LogM) (vh : Value) (P : List ByteArray) (Q : List ByteArray → Prop) (w : World) : Prop where
  k : Kept w0 (Pair2 (TLx p 0 200 cG D L) (GX bg vh P)) w
  r : ∃ a n u ls k num last, Sound 0 200 D (atM num (lgC a n u) last) ∧ num ≤ 3 * i + 3 ∧ CtSays a u ls k ∧ opL n ≤ 3310 ∧ k ≤ 4 ∧ Q ls
  f : D.fall = 0
  len : D.safe.length = 400
  t : D.taken ≤ 1000 * (3 * i + 3)
theorem g_crash {P : List ByteArray} {Q : List ByteArray → Prop} {kv : Value} (g : GO w0 bg i p D L vh P Q w) (keep : List Int) (hI : Ints w0 (fun k => k < w0.heap.size) kv keep) (hkl : keep.length ≤ 9223372036854775807) (hi : i ≤ 19) :
    Calls Tryz.prog 15 #[.pointer (some ⟨p.bd, 0, none⟩), .agg #[kv]] w fun e w' => e = .returned (.tuple #[]) ∧ Box (∃ D2, GB w0 bg i p D2 L vh P Q w') := by
  obtain ⟨vl, vh2, vp, hk⟩ := tlx_open g.k
  obtain ⟨C, ho, hQ⟩ := g.o
  refine (tcrash_any hk (GX.good _ _ _) kv keep (by rw [g.len]; decide) (by have := g.w; omega) hI hkl).mono fun e w' ⟨he, hk2⟩ => ⟨he, ⟨D.crash keep, tlx_close hk2.out, ?_, rfl, ?_, g.t⟩⟩
  · obtain ⟨num, ct, last, ⟨a, n, u, ls, k, rfl, s, hn, hk4, hc⟩, hS, hnum, _⟩ := ho.back keep (fun ct ⟨a, n, u, ls, k, e, s, hn, hk4, _⟩ => by
      subst e
      refine lgC_ok a n u ?_ (by omega) ?_
      · rcases s.lv with ⟨rfl, _⟩ | rfl
        · exact Nat.zero_le _
        · have := s.fit; simp only [opL]; omega
      · rcases s.us with ⟨rfl, _⟩ | rfl
        · exact Nat.zero_le _
        · have : (usB k).length = 4 := Pk.beN_length _ _
          simp only [opL]; omega) (by decide) (by decide)
    exact ⟨a, n, u, ls, k, num, last, hS, by omega, s, hn, hk4, hQ _ hc⟩
  · obtain ⟨D0, _, _, _, _, ha, _⟩ := ho.aft
    rw [(ha.crash keep).1, ← ha.len]
    exact g.len
/-- .. and opened again. -/
theorem g_open {P : List ByteArray} {Q : List ByteArray → Prop} (hE : Env w0) (g : GB w0 bg i p D L vh P Q w) :
    Calls Tryz.prog 9 #[.pointer (some ⟨p.bd, 0, none⟩), .int .i64 0, .int .i64 200, cfgV cG.o cG.s (cG.h : Int)] w fun e w' => ∃ p' : Pl, p'.bd = p.bd ∧ e = .returned (.tuple #[.pointer (some ⟨p'.bl, 0, none⟩), .int .i64 0]) ∧
      Box (∃ L2 a n u, Kept w0 (Pair2 (TLx p' 0 200 cG D L2) (GX bg vh P)) w' ∧ LogR 0 200 cG D L2 a n u ∧ L2.pd = [] ∧ CtSays a u L2.lv L2.u ∧ opL n ≤ 3310 ∧ Bd (3 * (i + 1)) D L2.C ∧ Q L2.lv) := by
  obtain ⟨vl, vh2, vp, hk⟩ := tlx_open g.k
  obtain ⟨a, n, u, ls, k, num, last, hS, hnum, s, hn, hk4, hQ⟩ := g.r
  obtain ⟨h1, h2⟩ := logR_open (c := cG) hS s hk4
  refine (treopen_any hE hk (GX.good _ _ _) cG_ok hS s (by rw [g.len]; decide)).mono fun e w' ⟨p', hp, he, hk2⟩ => ⟨p', hp, he, ⟨_, a, n, u, hk2.out, h1, rfl, ?_, hn, ⟨by have := g.t; omega, ?_, hnum, by rw [g.f]; decide⟩, hQ⟩⟩
  · show CtSays a u ls (skipN 0 (usI (lgC a n u)) cG.h)
    rw [h2]; exact s
  · rw [hS.calm.ws]; exact Nat.zero_le _
/-- In a round, a fall perhaps set. -/
structure GF (w0 : World) (bg : Nat) (i : Nat) (p : Pl) (D : Dev) (L : LogM) (a n u : Option Bs) (vh : Value) (w : World) : Prop where
  k : Kept w0 (Pair2 (TLx p 0 200 cG D L) (GX bg vh L.lv)) w
  r : LogR 0 200 cG D L a n u
  len : D.safe.length = 400
  pd : L.pd = []
  s : CtSays a u L.lv L.u
  nl : opL n ≤ 3310
  bd : Bd (3 * i) D L.C
  few : L.lv.length ≤ i
  sz : ∀ x ∈ L.lv, x.size ≤ 200
theorem GI.gf {a n u : Option Bs} (g : GI w0 bg i p D L a n u vh w) : GF w0 bg i p D L a n u vh w := ⟨g.k, g.r, g.len, g.pd, g.s, g.nl, g.bd, g.few, g.sz⟩
theorem g_fall {a n u : Option Bs} (g : GI w0 bg i p D L a n u vh w) (m : Int) (hm : 0 ≤ m ∧ m ≤ 60) :
    Calls Tryz.prog 10 #[.pointer (some ⟨p.bd, 0, none⟩), .int .i64 m] w fun e w' => e = .returned (.tuple #[]) ∧ Box (∃ D2, GF w0 bg i p D2 L a n u vh w') := by
  obtain ⟨vl, vh2, vp, hk⟩ := tlx_open g.k
  refine (tfall_any hk (GX.good _ _ _) m (by omega)).mono fun e w' ⟨he, hk2⟩ => ⟨he, ⟨D.falls m, tlx_close hk2.out, ⟨⟨⟨g.r.snd.calm.ok.falls m, g.r.snd.calm.off, g.r.snd.calm.ws⟩, g.r.snd.region, g.r.snd.ok, g.r.snd.off⟩, g.r.now, g.r.was, g.r.ok⟩, g.len, g.pd, g.s, g.nl, ?_, g.few, g.sz⟩⟩
  exact ⟨g.bd.t, g.bd.w, g.bd.n, by show (max m 0).toNat ≤ _; omega⟩
/-- A leaf waits. -/
structure GA (w0 : World) (bg : Nat) (i : Nat) (p : Pl) (D : Dev) (L : LogM) (a n u : Option Bs) (vh : Value) (P : List ByteArray) (x : ByteArray) (w : World) : Prop where
  k : Kept w0 (Pair2 (TLx p 0 200 cG D L) (GX bg vh P)) w
  r : LogR 0 200 cG D L a n u
  lv : L.lv = P
  pd : L.pd = [x]
  len : D.safe.length = 400
  s : CtSays a u P L.u
  nl : opL n ≤ 3310
  bd : Bd (3 * i) D L.C
  few : P.length ≤ i
  sz : ∀ y ∈ P ++ [x], y.size ≤ 200
theorem g_wait {a n u : Option Bs} (g : GF w0 bg i p D L a n u vh w) (x : ByteArray) (hx : x.size ≤ 200) (hi : i ≤ 19) :
    Calls Tryz.prog 11 #[.pointer (some ⟨p.bl, 0, none⟩), .string x] w fun e w' => e = .returned (.int .i64 0) ∧ Box (∃ L2, GA w0 bg i p D L2 a n u vh L.lv x w') := by
  obtain ⟨vl, vh2, vp, hk⟩ := tlx_open g.k
  have hA := tadd_any hk (GX.good _ _ _) g.r.ok x (by omega)
  have hf := g.few
  obtain ⟨e1, e2, e3, e4, e5, e6⟩ := g_add g.r x hx g.pd g.sz (by omega)
  rw [e1] at hA
  refine hA.mono fun e w' ⟨he, hk2⟩ => ⟨he, ⟨addM L x, hk2.out, e6, e2, e3, g.len, by rw [e4]; exact g.s, g.nl, by rw [e5]; exact g.bd, g.few, fun y hy => ?_⟩⟩
  rcases List.mem_append.1 hy with hy | hy
  · exact g.sz y hy
  · rw [List.mem_singleton.1 hy]; exact hx
theorem g_sq {a n u : Option Bs} {P : List ByteArray} {x : ByteArray} (hE : Env w0) (g : GA w0 bg i p D L a n u vh P x w) (hi : i ≤ 19) :
    Calls Tryz.prog 12 #[.pointer (some ⟨p.bl, 0, none⟩)] w fun e w' =>
      (e = .returned (.tuple #[.int .i64 ((P.length + 1 : Nat) : Int), .int .i64 0]) ∧ Box (∃ D2 L2, Kept w0 (Pair2 (TLx p 0 200 cG D2 L2) (GX bg vh P)) w' ∧ LogR 0 200 cG D2 L2 (some (lvB (P ++ [x]))) n u ∧ L2.lv = P ++ [x] ∧ L2.pd = [] ∧ L2.u = L.u ∧ D2.safe.length = 400 ∧ Bd (3 * i + 1) D2 L2.C)) ∨
      (e = .returned (.tuple #[.int .i64 0, .int .i64 7]) ∧ Box (∃ D2 L2, GO w0 bg i p D2 L2 vh P (fun ls => ls = P ∨ ls = P ++ [x]) w')) :=
  g_seq hE g.k g.r g.lv g.pd g.len g.s g.r.ok.u g.nl g.bd hi g.few g.sz
/-- Sequenced, and the leaf noted in the list of those that must be there: before Issue. -/
structure GS (w0 : World) (bg : Nat) (i : Nat) (p : Pl) (D : Dev) (L : LogM) (a n u : Option Bs) (vh : Value) (w : World) : Prop where
  k : Kept w0 (Pair2 (TLx p 0 200 cG D L) (GX bg vh L.lv)) w
  r : LogR 0 200 cG D L a n u
  pd : L.pd = []
  len : D.safe.length = 400
  s : CtSays a u L.lv L.u
  nl : opL n ≤ 3310
  bd : Bd (3 * i + 1) D L.C
  few : L.lv.length ≤ i + 1
  sz : ∀ y ∈ L.lv, y.size ≤ 200
theorem g_is {a n u : Option Bs} (hE : Env w0) (g : GS w0 bg i p D L a n u vh w) (hi : i ≤ 19) :
    Calls Tryz.prog 13 #[.pointer (some ⟨p.bl, 0, none⟩)] w fun e w' => ∃ t E, e = .returned (.tuple #[.string t, .int .i64 E]) ∧
      Box ((∃ D2 L2 a2 n2 u2, GR w0 bg i p D2 L2 a2 n2 u2 vh w' ∧ L2.lv = L.lv) ∨ (∃ D2 L2, GO w0 bg i p D2 L2 vh L.lv (fun ls => ls = L.lv) w')) :=
  g_iss hE g.k g.r g.pd g.len g.s g.nl g.bd hi g.few g.sz
end
end Go.Proofs.YthpfpkikmaiddaaGreatDoor.Tg
