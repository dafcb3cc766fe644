/- Roots and proofs out of a list's nodes are the list's. | The tiles of a number: the program's All; a list's files as a source. | The document's example: reads. | The calls over a list's files, told with what stands beside them. -/
import Derived.Test.YtlkopllpadhnlaaDoorMUd
namespace Go.Proofs.YtlkopllpadhnlaaDoor
open Go Go.RowKit

def nodG (l : List ByteArray) (L k : Nat) : ByteArray := rootL (undT l L k)
theorem cut_take (l : List ByteArray) (f s k : Nat) (hk : k ≤ s) : ((l.drop f).take s).take k = (l.drop f).take k := by rw [List.take_take, Nat.min_eq_left hk]
theorem cut_drop (l : List ByteArray) (f s k : Nat) : ((l.drop f).take s).drop k = (l.drop (f + k)).take (s - k) := by rw [List.drop_take, List.drop_drop]
theorem seg_len {l : List ByteArray} {n f s : Nat} (hn : n ≤ l.length) (h : f + s ≤ n) : ((l.drop f).take s).length = s := by rw [List.length_take, List.length_drop]; omega
theorem rootG_nod (l : List ByteArray) (n : Nat) (hn : n ≤ l.length) : ∀ (s f : Nat), Part n f s → rootG (nodG l) f s = rootL ((l.drop f).take s) := by
  intro s
  induction s using Nat.strongRecOn with
  | ind s ih =>
    intro f hP
    cases hlv : lvP s with
    | some L =>
      obtain ⟨hk, hf, h4, _⟩ := hP.node hlv
      rw [rootG_some hlv]
      unfold nodG undT
      rw [← h4, ← hf]
    | none =>
      have h2 : 2 ≤ s := by
        have := hP.1
        rcases Nat.lt_or_ge s 2 with h1 | h1
        · obtain rfl : s = 1 := by omega
          cases hlv
        · exact h1
      obtain ⟨h1, h3⟩ := hP.cut h2
      have hlt := cutN_lt h2
      have hpos := cutN_pos s
      have hlen := seg_len hn hP.2.1
      rw [rootG_none hlv h2, ih _ hlt f h1, ih _ (by omega) _ h3, rootL_cut ((l.drop f).take s) (by omega), hlen, cut_take _ _ _ _ (by omega), cut_drop]
theorem besG_leaf (l : List ByteArray) (n i : Nat) (hn : n ≤ l.length) : ∀ (s f : Nat), Part n f s → f ≤ i → i < f + s → besG (nodG l) i 1 f s = placeL ((l.drop f).take s) (i - f) := by
  intro s
  induction s using Nat.strongRecOn with
  | ind s ih =>
    intro f hP hf1 hf2
    have hlen := seg_len hn hP.2.1
    by_cases h2 : 2 ≤ s
    · obtain ⟨h1, h3⟩ := hP.cut h2
      have hlt := cutN_lt h2
      have hpos := cutN_pos s
      by_cases hl : i < f + cutN s
      · rw [besG_left h2 (by omega) hl, ih _ hlt f h1 hf1 hl, rootG_nod l n hn _ _ h3, placeL_left ((l.drop f).take s) (by omega) (i - f) (by rw [hlen]; omega), hlen, cut_take _ _ _ _ (by omega), cut_drop]
      · rw [besG_right h2 (by omega) (by omega), ih _ (by omega) _ h3 (by omega) (by omega), rootG_nod l n hn _ _ h1, placeL_right ((l.drop f).take s) (by omega) (i - f) (by rw [hlen]; omega), hlen, cut_take _ _ _ _ (by omega), cut_drop, show i - (f + cutN s) = i - f - cutN s by omega]
    · have := hP.1
      obtain rfl : s = 1 := by omega
      obtain rfl : i = f := by omega
      rw [besG_here, placeL_one _ (by omega)]
theorem last_step {m a q : Nat} (hm : m = 2 ^ a * q) (hq : q % 2 = 1) (s f h : Nat) (hs : s ≤ 2 ^ h) (hf : 2 ^ h ∣ f) (h1 : f < m) (h2 : m ≤ f + s) (h3 : m = f + s → 2 ^ a = s) :
    (m = f + s ∧ 2 ^ a = s) ∨ (2 ≤ s ∧ m < f + s ∧ m ≤ f + cutN s ∧ m - 2 ^ a < f + cutN s ∧ ∃ j, cutN s ≤ 2 ^ j ∧ 2 ^ j ∣ f ∧ (m = f + cutN s → 2 ^ a = cutN s)) ∨
    (2 ≤ s ∧ m < f + s ∧ f + cutN s < m ∧ f + cutN s ≤ m - 2 ^ a ∧ ∃ j, s - cutN s ≤ 2 ^ j ∧ 2 ^ j ∣ f + cutN s) := by
  have hza := Nat.two_pow_pos a
  by_cases he : m = f + s
  · exact .inl ⟨he, h3 he⟩
  · have hs2 : 2 ≤ s := by omega
    have hlt := cutN_lt hs2
    have hpos := cutN_pos s
    have hge := cutN_ge s
    obtain ⟨j, hj⟩ : ∃ j, cutN s = 2 ^ j := ⟨_, rfl⟩
    have hjh : j < h := by
      rcases Nat.lt_or_ge j h with h' | h'
      · exact h'
      · have := Nat.pow_le_pow_right (show 0 < 2 by decide) h'
        omega
    have hd : 2 ^ (j + 1) ∣ f := Nat.dvd_trans (Nat.pow_dvd_pow 2 (by omega)) hf
    rw [hj] at hlt hpos hge ⊢
    by_cases hl : m ≤ f + 2 ^ j
    · refine .inr (.inl ⟨hs2, by omega, hl, by omega, j, Nat.le_refl _, Nat.dvd_trans (Nat.pow_dvd_pow 2 (by omega)) hf, fun e => ?_⟩)
      obtain ⟨r, hr⟩ := hd
      have e2 : 2 ^ a * q = 2 ^ j * (2 * r + 1) := by
        rw [← hm, e, hr, Nat.pow_succ, Nat.mul_add, Nat.mul_one, Nat.mul_assoc]
      rcases Nat.lt_trichotomy a j with h' | h' | h'
      · exfalso
        obtain ⟨d, rfl⟩ : ∃ d, j = a + 1 + d := ⟨j - (a + 1), by omega⟩
        rw [Nat.pow_add, Nat.pow_succ, Nat.mul_assoc, Nat.mul_assoc] at e2
        have := Nat.eq_of_mul_eq_mul_left hza e2
        omega
      · rw [h']
      · exfalso
        obtain ⟨d, rfl⟩ : ∃ d, a = j + 1 + d := ⟨a - (j + 1), by omega⟩
        rw [Nat.pow_add, Nat.pow_succ, Nat.mul_assoc, Nat.mul_assoc] at e2
        have := Nat.eq_of_mul_eq_mul_left hpos e2
        omega
    · have hzr : f + 2 ^ j ≤ m - 2 ^ a := by
        rcases Nat.lt_or_ge a j with h' | h'
        · have d1 : 2 ^ a ∣ f + 2 ^ j := Nat.dvd_add (Nat.dvd_trans (Nat.pow_dvd_pow 2 (by omega)) hf) (Nat.pow_dvd_pow 2 (by omega))
          have d2 : 2 ^ a ∣ m := ⟨q, hm⟩
          have d3 : 2 ^ a ∣ m - (f + 2 ^ j) := Nat.dvd_sub d2 d1
          have := Nat.le_of_dvd (by omega) d3
          omega
        · exfalso
          have d1 : 2 ^ j ∣ f + 2 ^ j := Nat.dvd_add (Nat.dvd_trans (Nat.pow_dvd_pow 2 (by omega)) hf) (Nat.dvd_refl _)
          have d2 : 2 ^ j ∣ m := Nat.dvd_trans (Nat.pow_dvd_pow 2 h') ⟨q, hm⟩
          have d3 : 2 ^ j ∣ m - (f + 2 ^ j) := Nat.dvd_sub d2 d1
          have := Nat.le_of_dvd (by omega) d3
          omega
      exact .inr (.inr ⟨hs2, by omega, by omega, hzr, j, by omega, Nat.dvd_add (Nat.dvd_trans (Nat.pow_dvd_pow 2 (by omega)) hf) (Nat.dvd_refl _)⟩)
theorem part_last {m a q : Nat} (hm : m = 2 ^ a * q) (hq : q % 2 = 1) (l : List ByteArray) (n : Nat) (hn : n ≤ l.length) (hlast : rootG (nodG l) (m - 2 ^ a) (2 ^ a) = rootL ((l.drop (m - 2 ^ a)).take (2 ^ a))) :
    ∀ (s f h : Nat) (whole : Bool), Part n f s → s ≤ 2 ^ h → 2 ^ h ∣ f → f < m → m ≤ f + s → (m = f + s → 2 ^ a = s) →
      partL (m - f) ((l.drop f).take s) whole = (if whole = true ∧ m - 2 ^ a = f then [] else [rootG (nodG l) (m - 2 ^ a) (2 ^ a)]) ++ besG (nodG l) (m - 2 ^ a) (2 ^ a) f s := by
  intro s
  induction s using Nat.strongRecOn with
  | ind s ih =>
    intro f h whole hP hs hf h1 h2 h3
    have hlen := seg_len hn hP.2.1
    have hza := Nat.two_pow_pos a
    have hzm : 2 ^ a ≤ m := by
      rw [hm]
      exact Nat.le_mul_of_pos_right _ (by omega)
    have hne : m < f + s → ¬ (m - 2 ^ a = f ∧ 2 ^ a = s) := fun h5 ⟨h6, h7⟩ => by rw [h7] at h6 hzm; omega
    rcases last_step hm hq s f h hs hf h1 h2 h3 with ⟨e1, e2⟩ | ⟨hs2, hlt0, hle, hlt1, j, hj1, hj2, hj3⟩ | ⟨hs2, hlt0, hle, hlt1, j, hj1, hj2⟩
    · have e3 : m - 2 ^ a = f := by omega
      rw [e3, e2, besG_here, List.append_nil, partL_all _ _ _ (by rw [hlen]; omega)]
      rw [e3, e2] at hlast
      cases whole
      · rw [if_neg (by simp), if_neg (by simp), hlast]
      · rw [if_pos rfl, if_pos ⟨rfl, rfl⟩]
    · obtain ⟨q1, q2⟩ := hP.cut hs2
      have hlt := cutN_lt hs2
      rw [partL_left _ _ _ (by omega) (by rw [hlen]; omega) (by rw [hlen]; omega), hlen, cut_take _ _ _ _ (by omega), cut_drop, ih _ hlt f j whole q1 hj1 hj2 h1 hle hj3, besG_left hs2 (hne hlt0) hlt1, rootG_nod l n hn _ _ q2, List.append_assoc]
    · obtain ⟨q1, q2⟩ := hP.cut hs2
      have hlt := cutN_lt hs2
      have hpos := cutN_pos s
      have := ih _ (by omega) (f + cutN s) j false q2 hj1 hj2 hle (by omega) (by omega)
      rw [partL_right _ _ _ (by omega) (by rw [hlen]; omega) (by rw [hlen]; omega), hlen, cut_take _ _ _ _ (by omega), cut_drop, show m - f - cutN s = m - (f + cutN s) by omega, this, besG_right hs2 (hne hlt0) hlt1, rootG_nod l n hn _ _ q1, if_neg (by simp), if_neg (fun hh => absurd hh.2 (Nat.ne_of_gt (Nat.lt_of_lt_of_le (Nat.lt_add_of_pos_right hpos) hlt1))), List.append_assoc]
theorem conG_part (l : List ByteArray) (m n : Nat) (hn : n ≤ l.length) (h0 : 0 < m) (hmn : m < n) (hn2 : n ≤ 1024) : conG (nodG l) m n = partL m (l.take n) true := by
  obtain ⟨k1, k2⟩ := low_odd ⟨m, by omega⟩ (by show m ≠ 0; omega)
  simp only at k1 k2
  have hm : m = lowZ m * (m / lowZ m) := by rw [Nat.mul_div_cancel' (Nat.dvd_of_mod_eq_zero k1)]
  obtain ⟨_, hPt, hle⟩ := low_und h0 hmn hn2
  have := part_last (a := Lib.ctz 64 m) hm k2 l n hn (rootG_nod l n hn _ _ hPt) n 0 n true (Part.all (by omega)) (Nat.le_of_lt Nat.lt_two_pow_self) (Nat.dvd_zero _) h0 (by omega) (by omega)
  rw [Nat.sub_zero, List.drop_zero] at this
  rw [this]
  unfold conG
  show _ = (if true = true ∧ m - lowZ m = 0 then [] else [rootG (nodG l) (m - lowZ m) (lowZ m)]) ++ besG (nodG l) (m - lowZ m) (lowZ m) 0 n
  by_cases hz : lowZ m < m
  · rw [if_pos hz, if_neg (by omega)]
  · rw [if_neg hz, if_pos ⟨rfl, by omega⟩]
/-- All of 32 bytes. -/
def All32 (l : List ByteArray) : Prop := ∀ x ∈ l, x.size = 32
theorem All32.fit {l : List ByteArray} (h : All32 l) : Fit l := fun x hx => by rw [h x hx]; omega
theorem root_32 {l : List ByteArray} (h : All32 l) (h0 : l ≠ []) : (rootL l).size = 32 := by
  by_cases h2 : 2 ≤ l.length
  · rw [rootL_cut l h2, nodeH_size]
  · match l, h0 with
    | [x], _ => rw [rootL_one]; exact h x (by simp)
    | _ :: _ :: _, _ => simp at h2
theorem und_32 {l : List ByteArray} (h : All32 l) (L k : Nat) (hk : (k + 1) * 4 ^ L ≤ l.length) : (rootL (undT l L k)).size = 32 := by
  have hp := Nat.pow_pos (n := L) (show 0 < 4 by decide)
  rw [Nat.add_mul, Nat.one_mul] at hk
  refine root_32 (fun x hx => h x (List.mem_of_mem_drop (List.mem_of_mem_take hx))) fun e => ?_
  have := congrArg List.length e
  unfold undT at this
  rw [List.length_take, List.length_drop] at this
  simp at this
  generalize k * 4 ^ L = r at *
  generalize 4 ^ L = q at *
  omega
theorem makeT_32 {l : List ByteArray} (h : All32 l) (L I : Nat) : ∀ W, (W = 0 ∨ (4 * I + W) * 4 ^ L ≤ l.length) → (makeT l L I W).size = 32 * W ∧ ∀ j, j < W → hshT (makeT l L I W) j = nodG l L (4 * I + j)
  | 0, _ => ⟨rfl, fun j hj => by omega⟩
  | W + 1, hW => by
    have hW' : (4 * I + W + 1) * 4 ^ L ≤ l.length := by rcases hW with h | h; · omega
                                                        · exact h
    have hle : (4 * I + W) * 4 ^ L ≤ l.length := Nat.le_trans (Nat.mul_le_mul_right _ (by omega)) hW'
    obtain ⟨h1, h2⟩ := makeT_32 h L I W (.inr hle)
    have h3 := und_32 h L (4 * I + W) hW'
    refine ⟨by rw [makeT_succ, ByteArray.size_append, h1, h3]; omega, fun j hj => ?_⟩
    rw [makeT_succ]
    unfold hshT at h2 ⊢
    rcases Nat.lt_or_ge j W with hj1 | hj1
    · rw [← h2 j hj1]
      rw [ByteArray.extract_append, h1]
      have e1 : (rootL (undT l L (4 * I + W))).extract (j * 32 - 32 * W) (j * 32 + 32 - 32 * W) = ByteArray.empty := by
        refine ByteArray.ext (Array.eq_empty_of_size_eq_zero ?_)
        show ((rootL (undT l L (4 * I + W))).extract (j * 32 - 32 * W) (j * 32 + 32 - 32 * W)).size = 0
        rw [ByteArray.size_extract]; omega
      rw [e1, ByteArray.append_empty]
    · obtain rfl : j = W := by omega
      rw [ByteArray.extract_append, h1]
      have e1 : (makeT l L I j).extract (j * 32) (j * 32 + 32) = ByteArray.empty := by
        refine ByteArray.ext (Array.eq_empty_of_size_eq_zero ?_)
        show ((makeT l L I j).extract (j * 32) (j * 32 + 32)).size = 0
        rw [ByteArray.size_extract, h1]; omega
      rw [e1, ByteArray.empty_append, show j * 32 - 32 * j = 0 by omega, show j * 32 + 32 - 32 * j = (rootL (undT l L (4 * I + j))).size by omega, ByteArray.extract_zero_size]
      rfl
/-- What a list's files answer of a tile of its first n, where nothing is amiss. -/
theorem good_ans {l : List ByteArray} {gone long : ByteArray} {n : Nat} {t : Tl} (h : All32 l) (hn : n ≤ l.length) (ht : TlN n t) (hg : tlp t ≠ gone) (hl : tlp t ≠ long) :
    askT (filT l gone long t) t = (makeT l t.L t.I t.W, 0) ∧ ∀ j, j < t.W → hshT (makeT l t.L t.I t.W) j = nodG l t.L (4 * t.I + j) := by
  obtain ⟨hok, hw⟩ := ht
  have hle : nodN n t.L ≤ nodN l.length t.L := Nat.div_le_div_right hn
  have hw2 : (t.W : Int) ≤ widN l.length t.L t.I := by unfold widN at hw ⊢; omega
  have hw1 := hok.2.2.1
  have hin := (wid_in (n := l.length) (L := t.L) (I := t.I) (W := t.W) hw2 (t.W - 1) (by omega)).1
  rw [show 4 * t.I + (t.W - 1) + 1 = 4 * t.I + t.W by omega] at hin
  obtain ⟨h1, h2⟩ := makeT_32 h t.L t.I t.W (.inr hin)
  have hE : makE l t.L t.I t.W = 0 := by
    unfold makE
    rw [if_pos (tlok hok), Int.toNat_natCast, Int.toNat_natCast, if_neg (by omega)]
  have hT : makT l t.L t.I t.W = makeT l t.L t.I t.W := by
    unfold makT
    rw [if_pos hE, Int.toNat_natCast, Int.toNat_natCast, Int.toNat_natCast]
  have hF : filT l gone long t = (makeT l t.L t.I t.W, 0) := by
    unfold filT
    rw [if_neg hg, if_neg hl, hE, hT]
  refine ⟨?_, h2⟩
  unfold askT
  rw [hF, if_neg (by simp), if_pos h1]
end Go.Proofs.YtlkopllpadhnlaaDoor

namespace Go.Proofs.YtlkopllpadhnlaaDoor
open Go Go.RowKit

/-- A list's files as a source. -/
def filS (B : Nat) (a : Option Addr) (n c : Nat) (l : List ByteArray) (gone long : ByteArray) (g : Nat) (hF : Fit l) (hn : n ≤ 100000) : Src B where
  sv := .iface 44 (.pointer (some ⟨g, 0, none⟩))
  iface := ⟨_, _, rfl⟩
  ans t := askT (filT l gone long t) t
  I w F A := FlAt B a n c l gone long g w F (A.map tlp)
  chg h hc hF' _ := h.chg hc hF'
  sz h := by
    obtain ⟨va, hb, _⟩ := h.ex
    exact Nat.le_trans h.gB (Nat.le_of_lt hb.lt)
  lt h k hk := h.lt k hk
  size t h := askT_size _ t h
  none t h := askT_none _ t h
  ask w F A t hL hB ht hA h := by
    have hsz : (filT l gone long t).1.size ≤ 140737488355328000 := by
      have := makT_size hF t ht
      unfold filT
      split
      · exact Nat.zero_le _
      · simp only
        split
        · rw [ByteArray.size_append]; show _ + 1 ≤ _; omega
        · omega
    exact askF_any (fun w F => FlAt B a n c l gone long g w F (A.map tlp)) (fun w F => FlAt B a n c l gone long g w F ((A ++ [t]).map tlp)) (fun _ _ _ h hb => h.here hb) (fun _ _ _ h hb => h.here hb) B g (filT l gone long t) t
      (fun w F hL hB h => (file_any B a n c l gone long g w F (A.map tlp) t h hL hB ht (by rw [List.length_map]; omega) hF hn).mono fun e w' h => ⟨h.1, by
        obtain ⟨F', h1, h2, h3⟩ := h.2
        exact ⟨F', by rw [List.map_append]; exact h1, h2, h3⟩⟩) w F hL hB ht h (fun k hk => h.lt k hk) hsz
/-- The tiles of the levels below L; of n. -/
def lvlT (n L : Nat) : List Tl := (List.range ((nodN n L + 3) / 4)).map fun I => ⟨L, I, (widN n L I).toNat⟩
def allL (n L : Nat) : List Tl := (List.range L).flatMap (lvlT n)
def allT (n : Nat) : List Tl := allL n 6
theorem allL_next (n L : Nat) : allL n (L + 1) = allL n L ++ lvlT n L := by unfold allL; rw [List.range_succ, List.flatMap_append]; simp
theorem nodN_next (n L : Nat) : nodN n (L + 1) ≤ nodN n L := by
  unfold nodN
  rw [Nat.pow_succ, ← Nat.div_div_eq_div_mul]
  exact Nat.div_le_self _ _
theorem nod6 {n : Nat} (h : n ≤ 1024) : nodN n 6 = 0 := by
  unfold nodN
  exact Nat.div_eq_of_lt (by show n < 4096; omega)
theorem allL_end (n : Nat) (hn : n ≤ 1024) : ∀ (d L : Nat), L + d = 6 → nodN n L = 0 → allL n L = allT n
  | 0, L, h, _ => by obtain rfl : L = 6 := by omega
                     rfl
  | d + 1, L, h, h0 => by
    rw [← allL_end n hn d (L + 1) (by omega) (by have := nodN_next n L; omega), allL_next]
    unfold lvlT
    rw [h0]
    simp
def tlC (t : Tl) : List Value := [.int .i64 (t.L : Int), .int .i64 (t.I : Int), .int .i64 (t.W : Int)]
def tlsC (ts : List Tl) : List Value := ts.flatMap tlC
theorem tlsC_snoc (ts : List Tl) (t : Tl) : tlsC (ts ++ [t]) = tlsC ts ++ tlC t := by unfold tlsC; rw [List.flatMap_append]; simp
/-- A row of tiles (of the type ty), from B on. -/
structure TlR (ty : TypeId) (B : Nat) (w : World) (v : Value) (ts : List Tl) : Prop where
  row : Pk.Row w ty 3 v ts.length (tlsC ts)
  own : ∀ k, v.ownBlock = some k → B ≤ k
theorem TlR.here {ty : TypeId} {B : Nat} {w w' : World} {v : Value} {ts : List Tl} (h : TlR ty B w v ts) (hb : Below w.heap.size w w') : TlR ty B w' v ts :=
  ⟨h.row.chg (Pk.Chg.of_below hb) fun k hk e => by have := h.row.lt k hk; omega, h.own⟩
theorem info_tl : (Tryd.prog.info? 23).map (fun i => (i.zero, i.size, i.bytes)) = some (some (.agg #[.int .i64 0, .int .i64 0, .int .i64 0]), 3, 24) := by kernel_rfl
theorem lvlT_len (n L : Nat) : (lvlT n L).length = (nodN n L + 3) / 4 := by unfold lvlT; simp
theorem allL_len {n : Nat} (hn : n ≤ 1024) : ∀ L, (allL n L).length ≤ 1024 * L
  | 0 => by unfold allL; simp
  | L + 1 => by
    have := allL_len hn L
    have h2 := nodN_le n L
    rw [allL_next, List.length_append, lvlT_len]; omega
/-- In a level: so many of its tiles. -/
def lvlI (n L I : Nat) : List Tl := (List.range I).map fun I => ⟨L, I, (widN n L I).toNat⟩
theorem lvlI_next (n L I : Nat) : lvlI n L (I + 1) = lvlI n L I ++ [⟨L, I, (widN n L I).toNat⟩] := by unfold lvlI; rw [List.range_succ, List.map_append]; rfl
structure AlAt (ty : TypeId) (w0 w : World) (v : Value) (ts : List Tl) : Prop where
  r : TlR ty w0.heap.size w v ts
  bel : Below w0.heap.size w0 w
def AllIs (ty : TypeId) (w : World) (ts : List Tl) (e : Ending) (w' : World) : Prop := ∃ v, e = .returned v ∧ TlR ty w.heap.size w' v ts ∧ Below w.heap.size w w'
theorem AlAt.push {ty : TypeId} {w0 w w' : World} {v v' : Value} {ts : List Tl} {t : Tl} (h : AlAt ty w0 w v ts) (hp : Pk.PushedRow w ty 3 v (ts.length + 1) (tlsC ts ++ tlC t) v' w') : AlAt ty w0 w' v' (ts ++ [t]) :=
  ⟨⟨by rw [tlsC_snoc, List.length_append]; exact hp.row, fun k hk => by
      rcases hp.place k hk with h1 | h1
      · exact h.r.own k h1
      · exact Nat.le_trans h.bel.size h1⟩, h.bel.trans ((hp.chg.mono (T := fun i => w0.heap.size ≤ i) fun i _ e => h.r.own i e).below h.bel.size fun _ h => h)⟩
set_option maxHeartbeats 6400000 in
set_option maxRecDepth 100000 in
theorem all_any (n : Nat) (w : World) (hn1 : 1 ≤ n) (hn : n ≤ 1024) :
    Calls Tryd.prog 14 #[.int .i64 (n : Int)] w (AllIs 23 w (allT n)) := by
  have hS0 : Box (AlAt 23 w w (.slice none 0 0) (allL n 0)) := ⟨⟨⟨Pk.Row.nil _ _ _, fun k hk => (by cases hk)⟩, Below.refl _ _⟩⟩
  have hN := Box.mk (fun L w' => nodes_any n L w')
  have hWd := Box.mk (fun L I w' => widest_any n L I w' (by omega))
  obtain ⟨i0, hi0, hz0, hz1, hz2⟩ := info_parts info_tl
  have hH := Box.mk (And.intro hi0 (And.intro hz0 (And.intro hz1 hz2)))
  clear hi0 hz0 hz1 hz2
  go_enter Tryd.func14, Tryd.ntmps14
  go_wp2_with fail
  go_loopw [3, 4, 5] (fun v3 v4 _ wr => ∃ L : Nat, L ≤ 6 ∧ v4 = .int .i64 (L : Int) ∧ Box (AlAt 23 w wr v3 (allL n L))) (fun _ v4 _ _ => 6 - (intOf v4).toNat)
  case atStart => exact ⟨0, by omega, rfl, hS0⟩
  case round =>
    clear hS0
    obtain ⟨L, hL, rfl, hA⟩ := hrel
    obtain ⟨a, c, rfl⟩ := hA.out.r.row.shape
    have hN1 := hN.out L wr (by omega)
    have hnl := nodN_le n L
    by_cases h0 : nodN n L = 0
    · rw [h0] at hN1
      have he := Box.mk (allL_end n hn (6 - L) L (by omega) h0)
      clear hN hWd hH
      go_wp2_with fail
      refine hN1.mono ?_
      rintro e w1 ⟨rfl, hw1⟩
      subst hw1
      clear hN1
      go_wp2_with fail
      go_ret
      exact ⟨_, rfl, by rw [← he.out]; exact hA.out.r, hA.out.bel⟩
    · have hL6 : L < 6 := by
        rcases Nat.lt_or_ge L 6 with h | h
        · exact h
        · obtain rfl : L = 6 := by omega
          exact absurd (nod6 hn) h0
      obtain ⟨N, hNe⟩ : ∃ N, nodN n L = N := ⟨_, rfl⟩
      rw [hNe] at hN1 hnl h0
      have hal := Box.mk (allL_len hn L)
      have hcnt : ((N : Int) + 4 - 1) / 4 = (((N + 3) / 4 : Nat) : Int) := by omega
      have hpos : (0 : Int) < (N : Int) := by omega
      go_wp2_with fail
      refine hN1.mono ?_
      rintro e w1 ⟨rfl, hw1⟩
      subst hw1
      go_wp2_with fail
      refine hN1.mono ?_
      rintro e w1 ⟨rfl, hw1⟩
      subst hw1
      clear hN1
      go_wp2_with fail
      obtain ⟨C, hC⟩ : ∃ C, (N + 3) / 4 = C := ⟨_, rfl⟩
      rw [hC] at hcnt
      simp only [hcnt]
      have hlv := Box.mk (show lvlI n L C = lvlT n L by unfold lvlI lvlT; rw [hNe, hC])
      have hwp : Box (∀ I, I < C → ((widN n L I).toNat : Int) = widN n L I) := ⟨fun I hI => by
        have : widN n L I = min 4 ((nodN n L : Int) - (I : Int) * 4) := rfl
        rw [hNe] at this
        omega⟩
      have hS1 : Box (AlAt 23 w wr (.slice a (allL n L).length c) (allL n L ++ lvlI n L 0)) := ⟨by rw [show lvlI n L 0 = [] from rfl, List.append_nil]; exact hA.out⟩
      have hC256 : C ≤ 256 := by omega
      clear hN hA hpos hcnt
      go_loopw [3, 5, 20] (fun v3 _ v20 wr => ∃ I : Nat, I ≤ C ∧ v20 = .int .i64 (I : Int) ∧ Box (AlAt 23 w wr v3 (allL n L ++ lvlI n L I))) (fun _ _ v20 _ => C - (intOf v20).toNat)
      case atStart => exact ⟨0, by omega, rfl, hS1⟩
      case round =>
        clear hS1
        obtain ⟨I, hI, rfl, hA⟩ := hrel
        obtain ⟨a2, c2, rfl⟩ := hA.out.r.row.shape
        have hlI : (lvlI n L I).length = I := by unfold lvlI; simp
        obtain ⟨m, hm⟩ : ∃ m, (allL n L ++ lvlI n L I).length = m := ⟨_, rfl⟩
        have hm2 : m ≤ 8000 := by rw [← hm, List.length_append, hlI]; have := hal.out; omega
        by_cases hlt : I < C
        · have hW := hWd.out L I wr (by omega) (by omega)
          rw [← hwp.out I hlt] at hW
          obtain ⟨W, hWe⟩ : ∃ W, (widN n L I).toNat = W := ⟨_, rfl⟩
          have hnx := Box.mk (lvlI_next n L I)
          rw [hWe] at hW hnx
          unfold tv at hW
          rw [hm] at hA ⊢
          have hii : (I : Int) < (C : Int) := by omega
          replace hm := Box.mk hm
          clear hWe hlI
          go_wp2_with fail
          refine hW.mono ?_
          clear hW
          rintro e w1 ⟨rfl, hb⟩
          have hA1 := Box.mk (show AlAt 23 w w1 (.slice a2 m c2) (allL n L ++ lvlI n L I) from ⟨hA.out.r.here hb, mono_bel hA.out.bel hb (Nat.le_refl _)⟩)
          have hal1 := bel_alloc w1 (.cells #[.int .i64 (L : Int), .int .i64 (I : Int), .int .i64 (W : Int)] 23)
          have hA2 := Box.mk (show AlAt 23 w _ (.slice a2 m c2) (allL n L ++ lvlI n L I) from ⟨hA1.out.r.here hal1, mono_bel hA1.out.bel hal1 (Nat.le_refl _)⟩)
          have hP := Box.mk (Pk.Blk.new w1 [.int .i64 (L : Int), .int .i64 (I : Int), .int .i64 (W : Int)] 23)
          have hrow := hA2.out.r.row
          rw [hm.out] at hrow
          replace hrow := Box.mk hrow
          clear hb hal1 hA hA1
          go_wp2_with (at_builtin; refine Pk.wpList_pushR rfl (.tmp 23) (.tmp 28) 34 23 rfl i0 (.agg #[.int .i64 0, .int .i64 0, .int .i64 0]) 3 24 Tryd.underlying34 hH.out.1 hH.out.2.1 hH.out.2.2.1 hH.out.2.2.2 rfl (by decide) _ m (tlsC (allL n L ++ lvlI n L I)) rfl hrow.out ⟨w1.heap.size, 0, none⟩ 1 1 (tlC ⟨L, I, W⟩) rfl rfl (fun j u hj => by rw [show (⟨w1.heap.size, 0, none⟩ : Addr).add j = ⟨w1.heap.size, j, none⟩ by unfold Addr.add; split <;> simp_all]; rw [Pk.Blk.cell hP.out j]; exact hj) (fun u hu => by simp only [tlC, List.mem_cons, List.not_mem_nil, or_false] at hu; rcases hu with rfl | rfl | rfl <;> rfl) (by unfold maxLen; omega) (by omega) ?_)
          rintro v2 w2 hp
          replace hp : Pk.PushedRow (w1.alloc (.cells #[.int .i64 (L : Int), .int .i64 (I : Int), .int .i64 (W : Int)] 23)) 23 3 (.slice a2 m c2) ((allL n L ++ lvlI n L I).length + 1) (tlsC (allL n L ++ lvlI n L I) ++ tlC ⟨L, I, W⟩) v2 w2 := by rw [hm.out]; exact hp
          have hA3 : Box (AlAt 23 w w2 v2 (allL n L ++ lvlI n L (I + 1))) := ⟨by rw [hnx.out, ← List.append_assoc]; exact hA2.out.push hp⟩
          clear hp hA2 hP hrow
          go_wp2_with fail
          exact ⟨⟨I + 1, by omega, by go_num, hA3⟩, by simp [intOf]; omega⟩
        · obtain rfl : I = C := by omega
          have hii : ¬ (I : Int) < (I : Int) := by omega
          have hA4 : Box (AlAt 23 w wr (.slice a2 (allL n L ++ lvlI n L I).length c2) (allL n (L + 1))) := ⟨by rw [allL_next, ← hlv.out]; exact hA.out⟩
          rw [hm] at hA4 ⊢
          clear hA hm
          go_wp2_with fail
          exact ⟨⟨L + 1, by omega, by go_num, hA4⟩, by simp [intOf]; omega⟩
end Go.Proofs.YtlkopllpadhnlaaDoor

namespace Go.Proofs.YtlkopllpadhnlaaDoor
open Go Go.RowKit

theorem Ld.up {B C : Nat} {w : World} (h : Ld B w) (hC : B ≤ C) : Ld C w := ⟨h.kis, h.tis, fun w' hb => h.pis w' (hb.mono hC), Nat.lt_of_lt_of_le h.g1 hC, Nat.lt_of_lt_of_le h.g2 hC⟩
theorem errA_zero {B : Nat} {S : Src B} {A : List Tl} (h : ∀ t ∈ A, (S.ans t).2 = 0) : errA S A = 0 := by
  rcases List.eq_nil_or_concat A with h0 | ⟨A1, t, h1⟩
  · subst h0; rfl
  · have h1 : A = A1 ++ [t] := by simpa using h1
    subst h1
    rw [errA_snoc]
    exact h t (by simp)
theorem tlp_ne {t : Tl} (h : TlOk t) : tlp t ≠ ByteArray.empty := by
  intro e
  have h1 := congrArg ByteArray.size e
  unfold tlp pathT at h1
  rw [if_pos (tlok h)] at h1
  split at h1
  · simp only [ByteArray.size_append, show sTile.size = 5 from rfl, show ByteArray.empty.size = 0 from rfl] at h1; omega
  · simp only [ByteArray.size_append, show sTile.size = 5 from rfl, show ByteArray.empty.size = 0 from rfl] at h1; omega
/-- New files of a list. -/
theorem fl_new {B : Nat} {w : World} {a : Option Addr} {n c : Nat} {l : List ByteArray} (gone long : ByteArray) (h : TxR B w (.slice a n c) l) (hn : l.length = n) (hB : B ≤ w.heap.size) :
    ∃ F, FlAt B a n c l gone long w.heap.size (w.alloc (.cells #[.slice a n c, .string gone, .string long, .slice none 0 0] 46)) F [] ∧ ∀ k, F k → B ≤ k := by
  have hal := bel_alloc w (.cells #[.slice a n c, .string gone, .string long, .slice none 0 0] 46)
  have hap : ∀ ad, a = some ad → B ≤ ad.block ∧ ad.block < w.heap.size := fun ad e => by
    obtain ⟨_, ⟨h1, _⟩ | ⟨g, cap, cur, h1, b1, hg, _⟩⟩ := h
    · rw [e] at h1; cases h1
    · rw [e] at h1; cases h1
      exact ⟨b1, (Array.getElem?_eq_some_iff.1 hg).1⟩
  have hX : FlAt B a n c l gone long w.heap.size (w.alloc (.cells #[.slice a n c, .string gone, .string long, .slice none 0 0] 46)) (fun k => k = w.heap.size ∨ (Value.slice none 0 0).ownBlock = some k ∨ ∃ ad, a = some ad ∧ ad.block = k) [] :=
    ⟨⟨.slice none 0 0, Pk.Blk.new w [.slice a n c, .string gone, .string long, .slice none 0 0] _, TxR.nil _ _, fun k => Iff.rfl, fun ad e => ⟨(hap ad e).1, Nat.lt_of_lt_of_le (hap ad e).2 hal.size, by have := (hap ad e).2; omega, fun h => by cases h⟩⟩, (h.pa hn).here hal, hB⟩
  exact ⟨_, hX, fun k hk => (hX.lt k hk).1⟩
theorem all6 : allT 6 = [⟨0, 0, 4⟩, ⟨0, 1, 2⟩, ⟨1, 0, 1⟩] := by decide +kernel
theorem path6 : pathT (0 : Int) 1 2 = ⟨#[116, 105, 108, 101, 47, 48, 47, 49, 46, 112, 47, 50]⟩ := by
  refine ba_ext ?_
  have := path_list 0 1 2 rfl
  rw [Lib.decDigits_one (by decide), Lib.decDigits_one (by decide), Lib.decDigits_one (by decide)] at this
  rw [show pathT (0 : Int) 1 2 = pathT ((0 : Nat) : Int) ((1 : Nat) : Int) ((2 : Nat) : Int) from rfl, this]
  rfl
/-- A good source of the first k. -/
theorem fil_good {B : Nat} {a : Option Addr} {n c : Nat} {l : List ByteArray} {gone long : ByteArray} {g : Nat} {hF : Fit l} {hn : n ≤ 100000} {A : List Tl} {k : Nat} (h32 : All32 l) (hk : k ≤ l.length) (hA : ∀ t ∈ A, TlN k t) (hg : ∀ t ∈ A, tlp t ≠ gone ∧ tlp t ≠ long) :
    errA (filS B a n c l gone long g hF hn) A = 0 ∧ Tells (filS B a n c l gone long g hF hn) A (nodG l) := by
  have h1 := fun t ht => good_ans h32 hk (hA t ht) (hg t ht).1 (hg t ht).2
  refine ⟨errA_zero fun t ht => ?_, fun t ht j hj => ?_⟩
  · show (askT (filT l gone long t) t).2 = 0
    rw [(h1 t ht).1]
  · show hshT (askT (filT l gone long t) t).1 j = _
    rw [(h1 t ht).1]
    exact (h1 t ht).2 j hj
set_option maxHeartbeats 6400000 in
set_option maxRecDepth 100000 in
theorem reads_any (B : Nat) (w : World) (hL0 : Ld B w) (hB0 : B ≤ w.heap.size) :
    Calls Tryd.prog 9 #[] w fun e w' => e = .returned (.bool true) ∧ Below w.heap.size w w' := by
  have hL := Box.mk (hL0.up hB0)
  have hLv := leavesT_any 6 w (by decide)
  unfold LeavesT at hLv
  clear hL0 hB0
  go_enter Tryd.func9, Tryd.ntmps9
  go_wp2_with fail
  refine hLv.mono ?_
  clear hLv
  rintro e w1 ⟨v, l, rfl, hll, h32, hT, hb1⟩
  obtain ⟨a, c, rfl⟩ := hT.shape
  rw [hll] at hT ⊢
  obtain ⟨F, hFl, hFB⟩ := fl_new ByteArray.empty ByteArray.empty hT hll hb1.size
  have hal := bel_alloc w1 (.cells #[.slice a 6 c, .string ByteArray.empty, .string ByteArray.empty, .slice none 0 0] 46)
  obtain ⟨W1, hW1⟩ : ∃ W1, w1.alloc (.cells #[.slice a 6 c, .string ByteArray.empty, .string ByteArray.empty, .slice none 0 0] 46) = W1 := ⟨_, rfl⟩
  rw [hW1] at hFl hal
  have hb2 := mono_bel hb1 hal (Nat.le_refl _)
  obtain ⟨g, hg⟩ : ∃ g, w1.heap.size = g := ⟨_, rfl⟩
  have hgl : g < W1.heap.size := by rw [← hg, ← hW1]; simp
  rw [hg] at hFl
  have hAl := all_any 6 W1 (by decide) (by decide)
  rw [all6] at hAl
  unfold AllIs at hAl
  replace hW1 := Box.mk hW1
  replace hg := Box.mk hg
  replace hFl := Box.mk hFl
  replace hb2 := Box.mk hb2
  replace hFB := Box.mk hFB
  replace h32 := Box.mk (h32 : All32 l)
  clear hT hal hb1
  go_wp2_with fail
  rw [show w1.alloc (.cells #[.slice a 6 c, .string ⟨#[]⟩, .string ⟨#[]⟩, .slice none 0 0] 46) = W1 from hW1.out, hg.out]
  refine hAl.mono ?_
  clear hAl hW1
  rintro e w2 ⟨vt, rfl, hR, hb3⟩
  obtain ⟨gt, ct, rfl, hgt⟩ := hR.row.some (by decide)
  have hFl2 := hFl.out.here hb3
  have hb4 := mono_bel hb2.out hb3 (Nat.le_refl _)
  have hFit : Fit l := All32.fit h32.out
  have hFlt := Box.mk (fun k hk => (hFl.out.lt k hk).2)
  have hRt : Calls Tryd.prog 20 #[.iface 44 (.pointer (some ⟨g, 0, none⟩)), .int .i64 6] w2 (RootT (filS w.heap.size a 6 c l ByteArray.empty ByteArray.empty g hFit (by decide)) 6 [] F w2) :=
    troot_any (filS w.heap.size a 6 c l ByteArray.empty ByteArray.empty g hFit (by decide)) 6 [] F w2 hFl2 (hL.out.here hb4 (Nat.le_refl _)) hb4.size (by decide) (by decide) (by decide)
  unfold RootT at hRt
  replace hR := Box.mk hR
  replace hb4 := Box.mk hb4
  clear hb3 hFl hb2 hFl2
  go_wp2_with fail
  refine hRt.mono ?_
  clear hRt
  rintro e w3 ⟨A, Fs, r, rfl, hS, hr1, hr2⟩
  obtain ⟨hE, hTell⟩ := fil_good (B := w.heap.size) (a := a) (n := 6) (c := c) (gone := ByteArray.empty) (long := ByteArray.empty) (g := g) (hF := hFit) (hn := by decide) (A := A) h32.out (by rw [hll]; exact Nat.le_refl _) hS.tiles (fun t ht => ⟨tlp_ne (hS.tiles t ht).1, tlp_ne (hS.tiles t ht).1⟩)
  have hrr := hr2 hE _ hTell
  rw [rootG_nod l 6 (by rw [hll]; exact Nat.le_refl _) 6 0 (Part.all (by decide)), List.drop_zero, List.take_of_length_le (by rw [hll]; exact Nat.le_refl _)] at hrr
  rw [hE]
  have hbel : Below w.heap.size w w3 := hb4.out.trans (hS.chg.below hb4.out.size fun i hi => hFB.out i hi)
  -- the tiles stand where they stood
  have hRr : Pk.Row w3 23 3 (.slice (some ⟨gt, 0, none⟩) 3 ct) 3 (tlsC [⟨0, 0, 4⟩, ⟨0, 1, 2⟩, ⟨1, 0, 1⟩]) := hR.out.row.chg hS.chg fun k hk e => by
    have h1 := hR.out.own k hk
    have h2 := hFlt.out k e
    omega
  have e3 := hRr.cells 3 (.int .i64 0) rfl
  have e4 := hRr.cells 4 (.int .i64 1) rfl
  have e5 := hRr.cells 5 (.int .i64 2) rfl
  replace hRr := Box.mk hRr
  have hFl3 : FlAt w.heap.size a 6 c l ByteArray.empty ByteArray.empty g w3 Fs (([] ++ A).map tlp) := hS.src
  have hPa := path_any 0 1 2 w.heap.size w3 (hL.out.here hbel (Nat.le_refl _)) hbel.size
  rw [path6] at hPa
  unfold tv at hPa
  replace hPa := Box.mk hPa
  replace hFl3 := Box.mk hFl3
  replace hbel := Box.mk hbel
  replace hrr := Box.mk hrr
  replace hFit := Box.mk hFit
  clear hS hr1 hr2 hTell hE hR hb4
  go_wp2_with fail
  refine hPa.out.mono ?_
  rintro e w4 ⟨rfl, hb5⟩
  have hFl4 := hFl3.out.here hb5
  obtain ⟨vb, hbk, _⟩ := hFl4.ex
  have c0 := hbk.cell 0
  have hRR := rroot_any 6 l a c w4 hFl4.pa hFit.out
  have hbf := Box.mk (mono_bel hbel.out hb5 (Nat.le_refl _))
  simp only [List.getElem?_cons_zero] at c0
  have hR4 := hRr.out.chg (Pk.Chg.of_below hb5) fun k hk e => by have := hRr.out.lt k hk; omega
  have e6 := hR4.cells 6 (.int .i64 1) rfl
  have e7 := hR4.cells 7 (.int .i64 0) rfl
  have e8 := hR4.cells 8 (.int .i64 1) rfl
  obtain ⟨Q, hQ⟩ : ∃ Q, rootL l = Q := ⟨_, rfl⟩
  rw [hQ] at hRR hrr
  have hq : (r.toList == Q.toList) = true := by rw [hrr.out]; simp
  clear hb5 hPa hFl3 hFl4 hbk hbel hR4 hRr e3 e4 e5 hQ
  go_wp2_with fail
  refine hRR.mono ?_
  rintro e w5 ⟨rfl, hb6⟩
  have hbg := Box.mk (mono_bel hbf.out hb6 (Nat.le_refl _))
  clear hb6 hRR
  go_wp2_with fail
  go_ret
  exact ⟨by first | rfl | (rw [hq]) | (simp [hq]), hbg.out⟩
end Go.Proofs.YtlkopllpadhnlaaDoor

namespace Go.Proofs.YtlkopllpadhnlaaDoor
open Go Go.RowKit

/-- Files of a list, rows of texts beside them; what was asked for. -/
structure GS (w0 : World) (a : Option Addr) (n c : Nat) (l : List ByteArray) (gone long : ByteArray) (g : Nat) (rs : List (Value × List ByteArray)) (A : List Tl) (w : World) : Prop where
  fl : ∃ F, FlAt w0.heap.size a n c l gone long g w F (A.map tlp) ∧ ∀ r ∈ rs, ∀ k, r.1.ownBlock = some k → ¬ F k
  rows : ∀ r ∈ rs, TxR w0.heap.size w r.1 r.2
  ld : Ld w0.heap.size w
  bel : Below w0.heap.size w0 w
section
variable {w0 : World} {a : Option Addr} {n c : Nat} {l : List ByteArray} {gone long : ByteArray} {g : Nat} {rs : List (Value × List ByteArray)} {A : List Tl} {w w' : World}
theorem GS.here (h : GS w0 a n c l gone long g rs A w) (hb : Below w.heap.size w w') : GS w0 a n c l gone long g rs A w' := by
  obtain ⟨F, h1, h2⟩ := h.fl
  exact ⟨⟨F, h1.here hb, h2⟩, fun r hr => (h.rows r hr).here hb, h.ld.here hb h.bel.size, mono_bel h.bel hb (Nat.le_refl _)⟩
theorem GS.pa (h : GS w0 a n c l gone long g rs A w) : PA w a n c l := by obtain ⟨F, h1, _⟩ := h.fl; exact h1.pa
/-- A new row beside. -/
theorem GS.add (h : GS w0 a n c l gone long g rs A w) (hb : Below w.heap.size w w') {v : Value} {P : List ByteArray} (hT : TxR w.heap.size w' v P) : GS w0 a n c l gone long g ((v, P) :: rs) A w' := by
  have h' := h.here hb
  obtain ⟨F, h1, h2⟩ := h.fl
  refine ⟨⟨F, h1.here hb, fun r hr k hk e => ?_⟩, fun r hr => ?_, h'.ld, h'.bel⟩
  · rcases List.mem_cons.1 hr with rfl | hr
    · have := (hT.own k hk).1; have := (h1.lt k e).2; omega
    · exact h2 r hr k hk e
  · rcases List.mem_cons.1 hr with rfl | hr
    · exact hT.base h.bel.size
    · exact h'.rows r hr
theorem GS.sn (h : GS w0 a n c l gone long g rs A w) {F : Nat → Prop} (hF : FlAt w0.heap.size a n c l gone long g w F (A.map tlp)) (h2 : ∀ r ∈ rs, ∀ k, r.1.ownBlock = some k → ¬ F k) {hf : Fit l} {hn : n ≤ 100000} {k : Nat} {A' : List Tl} {Fs' : Nat → Prop}
    (hS : SN (filS w0.heap.size a n c l gone long g hf hn) k A F w A' Fs' w') : GS w0 a n c l gone long g rs (A ++ A') w' := by
  have hbel : Below w0.heap.size w w' := hS.chg.below h.bel.size fun i hi => (hF.lt i hi).1
  refine ⟨⟨Fs', hS.src, fun r hr q hq e => ?_⟩, fun r hr => (h.rows r hr).chg hS.chg fun q hq => h2 r hr q hq, h.ld.below hbel, h.bel.trans hbel⟩
  rcases hS.foot q e with h3 | h3
  · exact h2 r hr q hq h3
  · have := ((h.rows r hr).own q hq).2; omega
end
/-- The files' source as a value. -/
def flV (g : Nat) : Value := .iface 44 (.pointer (some ⟨g, 0, none⟩))
section
variable {w0 : World} {a : Option Addr} {n c : Nat} {l : List ByteArray} {g : Nat} {rs : List (Value × List ByteArray)} {A : List Tl}
theorem ok_tiles {k : Nat} {A' : List Tl} (h : ∀ t ∈ A', TlN k t) : ∀ t ∈ A', tlp t ≠ ByteArray.empty ∧ tlp t ≠ ByteArray.empty := fun t ht => ⟨tlp_ne (h t ht).1, tlp_ne (h t ht).1⟩
theorem groot (k : Nat) (w : World) (h : GS w0 a n c l ByteArray.empty ByteArray.empty g rs A w) (h32 : All32 l) (hn : n ≤ 1024) (hl : l.length = n) (hk : k ≤ n) (hA : A.length ≤ 50000) :
    Calls Tryd.prog 20 #[flV g, .int .i64 (k : Int)] w fun e w' => ∃ A', e = .returned (.tuple #[.string (rootL (l.take k)), .int .i64 0]) ∧ GS w0 a n c l ByteArray.empty ByteArray.empty g rs (A ++ A') w' ∧ (∀ t ∈ A', TlN k t) ∧ A'.length ≤ 4096 := by
  obtain ⟨F, hF, h2⟩ := h.fl
  rcases Nat.eq_zero_or_pos k with h0 | h0
  · subst h0
    refine (troot_zero (filS w0.heap.size a n c l ByteArray.empty ByteArray.empty g h32.fit (by omega)) w h.ld.kis).mono fun e w' he => ⟨[], ?_, by rw [List.append_nil]; exact h.here he.2, fun t ht => (by cases ht), Nat.zero_le _⟩
    rw [he.1, List.take_zero, rootL_nil]
  · refine (troot_any (filS w0.heap.size a n c l ByteArray.empty ByteArray.empty g h32.fit (by omega)) k A F w hF h.ld h.bel.size h0 (by omega) (by omega)).mono fun e w' => ?_
    rintro ⟨A', Fs', r, rfl, hS, hr1, hr2⟩
    obtain ⟨hE, hT⟩ := fil_good (B := w0.heap.size) (a := a) (n := n) (c := c) (g := g) (hF := h32.fit) (hn := by omega) h32 (by omega) hS.tiles (ok_tiles hS.tiles)
    refine ⟨A', ?_, h.sn hF h2 hS, hS.tiles, by have := hS.len; omega⟩
    rw [hr2 hE _ hT, rootG_nod l k (by omega) k 0 (Part.all h0), List.drop_zero, hE]
theorem ginc (k : Nat) (i : Int) (w : World) (h : GS w0 a n c l ByteArray.empty ByteArray.empty g rs A w) (h32 : All32 l) (hn : n ≤ 1024) (hl : l.length = n) (hk : k ≤ n) (hA : A.length ≤ 50000) :
    Calls Tryd.prog 21 #[flV g, .int .i64 (k : Int), .int .i64 i] w fun e w' => ∃ A' v, e = .returned (.tuple #[v, .int .i64 (incE (l.take k) i)]) ∧ GS w0 a n c l ByteArray.empty ByteArray.empty g ((v, incL (l.take k) i) :: rs) (A ++ A') w' ∧ (∀ t ∈ A', TlN k t) ∧ A'.length ≤ 4096 := by
  obtain ⟨F, hF, h2⟩ := h.fl
  have hlk : (l.take k).length = k := by rw [List.length_take]; omega
  unfold incE incL
  rw [hlk]
  by_cases hi : 0 ≤ i ∧ i < (k : Int)
  · obtain ⟨j, rfl⟩ : ∃ j : Nat, i = j := ⟨i.toNat, by omega⟩
    rw [if_pos hi, if_pos hi, Int.toNat_natCast]
    refine (tinc_any (filS w0.heap.size a n c l ByteArray.empty ByteArray.empty g h32.fit (by omega)) k j A F w hF h.ld h.bel.size (by omega) (by omega) (by omega)).mono fun e w' => ?_
    rintro ⟨A', Fs', v, P, rfl, hS, hR, hap, hr1, hr2, hsz⟩
    obtain ⟨hE, hT⟩ := fil_good (B := w0.heap.size) (a := a) (n := n) (c := c) (g := g) (hF := h32.fit) (hn := by omega) h32 (by omega) hS.tiles (ok_tiles hS.tiles)
    have hP : P = besG (nodG l) j 1 0 k := hr2 hE _ hT
    rw [besG_leaf l k j (by omega) k 0 (Part.all (by omega)) (Nat.zero_le _) (by omega), List.drop_zero, Nat.sub_zero] at hP
    have hG := h.sn hF h2 hS
    refine ⟨A', v, by rw [hE], ⟨⟨Fs', hS.src, fun r hr q hq e => ?_⟩, fun r hr => ?_, hG.ld, hG.bel⟩, hS.tiles, by have := hS.len; omega⟩
    · rcases List.mem_cons.1 hr with rfl | hr
      · exact hap q hq e
      · rcases hS.foot q e with h3 | h3
        · exact h2 r hr q hq h3
        · have := ((h.rows r hr).own q hq).2; omega
    · rcases List.mem_cons.1 hr with rfl | hr
      · rw [← hP]; exact hR.base h.bel.size
      · exact hG.rows r hr
  · rw [if_neg hi, if_neg hi]
    refine (tinc_bad (filS w0.heap.size a n c l ByteArray.empty ByteArray.empty g h32.fit (by omega)) k i w (by omega)).mono fun e w' he => ⟨[], _, he.1, ?_, fun t ht => (by cases ht), Nat.zero_le _⟩
    rw [← he.2, List.append_nil]
    exact h.add (Below.refl _ _) (TxR.nil _ _)
theorem gcon (k : Nat) (m : Int) (w : World) (h : GS w0 a n c l ByteArray.empty ByteArray.empty g rs A w) (h32 : All32 l) (hn : n ≤ 1024) (hl : l.length = n) (hk : k ≤ n) (hA : A.length ≤ 50000) :
    Calls Tryd.prog 23 #[flV g, .int .i64 (k : Int), .int .i64 m] w fun e w' => ∃ A' v, e = .returned (.tuple #[v, .int .i64 (conE (l.take k) m)]) ∧ GS w0 a n c l ByteArray.empty ByteArray.empty g ((v, conL (l.take k) m) :: rs) (A ++ A') w' ∧ (∀ t ∈ A', TlN k t) ∧ A'.length ≤ 4096 := by
  obtain ⟨F, hF, h2⟩ := h.fl
  have hlk : (l.take k).length = k := by rw [List.length_take]; omega
  unfold conE conL
  rw [hlk]
  by_cases hm : 0 ≤ m ∧ m ≤ (k : Int)
  · rw [if_pos hm]
    by_cases he : m = 0 ∨ m = (k : Int)
    · refine (tcon_edge (filS w0.heap.size a n c l ByteArray.empty ByteArray.empty g h32.fit (by omega)) k m w hm.1 hm.2 (by omega) he).mono fun e w' he' => ⟨[], _, he'.1, ?_, fun t ht => (by cases ht), Nat.zero_le _⟩
      rw [← he'.2, List.append_nil]
      have : (if 0 < m ∧ m ≤ (k : Int) then partL m.toNat (l.take k) true else []) = [] := by
        by_cases h0 : 0 < m ∧ m ≤ (k : Int)
        · rw [if_pos h0, partL_all _ _ _ (by rw [hlk]; omega)]; rfl
        · rw [if_neg h0]
      rw [this]
      exact h.add (Below.refl _ _) (TxR.nil _ _)
    · obtain ⟨j, rfl⟩ : ∃ j : Nat, m = j := ⟨m.toNat, by omega⟩
      rw [if_pos ⟨by omega, hm.2⟩, Int.toNat_natCast]
      refine (tcon_any (filS w0.heap.size a n c l ByteArray.empty ByteArray.empty g h32.fit (by omega)) k j A F w hF h.ld h.bel.size (by omega) (by omega) (by omega) (by omega)).mono fun e w' => ?_
      rintro ⟨A', Fs', v, P, rfl, hS, hR, hap, hr1, hr2, hsz⟩
      obtain ⟨hE, hT⟩ := fil_good (B := w0.heap.size) (a := a) (n := n) (c := c) (g := g) (hF := h32.fit) (hn := by omega) h32 (by omega) hS.tiles (ok_tiles hS.tiles)
      have hP : P = conG (nodG l) j k := hr2 hE _ hT
      rw [conG_part l j k (by omega) (by omega) (by omega) (by omega)] at hP
      have hG := h.sn hF h2 hS
      refine ⟨A', v, by rw [hE], ⟨⟨Fs', hS.src, fun r hr q hq e => ?_⟩, fun r hr => ?_, hG.ld, hG.bel⟩, hS.tiles, by have := hS.len; omega⟩
      · rcases List.mem_cons.1 hr with rfl | hr
        · exact hap q hq e
        · rcases hS.foot q e with h3 | h3
          · exact h2 r hr q hq h3
          · have := ((h.rows r hr).own q hq).2; omega
      · rcases List.mem_cons.1 hr with rfl | hr
        · rw [← hP]; exact hR.base h.bel.size
        · exact hG.rows r hr
  · rw [if_neg hm, if_neg (by omega)]
    refine (tcon_bad (filS w0.heap.size a n c l ByteArray.empty ByteArray.empty g h32.fit (by omega)) k m w (by omega)).mono fun e w' he => ⟨[], _, he.1, ?_, fun t ht => (by cases ht), Nat.zero_le _⟩
    rw [← he.2, List.append_nil]
    exact h.add (Below.refl _ _) (TxR.nil _ _)
end
end Go.Proofs.YtlkopllpadhnlaaDoor
