/- The reader's node, root. | The reader's beside: the roots of the parts beside the way from a part up to one that it is in. | Root, Inclusion, Consistency out of tiles. | Inclusion out of tiles; Consistency out of tiles. -/
import Derived.Test.YtlkopllpadhnlaaDoorMUb
namespace Go.Proofs.YtlkopllpadhnlaaDoor
open Go Go.RowKit

/-- The hash number j of a tile's text. -/
def hshT (x : ByteArray) (j : Nat) : ByteArray := x.extract (j * 32) (j * 32 + 32)
theorem hshT_size (x : ByteArray) (j : Nat) : (hshT x j).size ≤ 32 := by unfold hshT; rw [ByteArray.size_extract]; omega
theorem errA_pre {B : Nat} {S : Src B} {n g : Nat} {A0 A A' : List Tl} {F : Nat → Prop} {w : World} (h : RdAt S n g A0 A' F w) (hp : A <+: A') (he : errA S A' = 0) : errA S A = 0 := by
  rcases List.eq_nil_or_concat A with h0 | ⟨A1, t, h1⟩
  · subst h0; rfl
  · have h1 : A = A1 ++ [t] := by simpa using h1
    subst h1
    rw [errA_snoc]
    exact h.good he t (hp.subset (by simp))
/-- The tile that has the node k of a level. -/
def tlK (n L k : Nat) : Tl := ⟨L, k / 4, (widN n L (k / 4)).toNat⟩
theorem tlK_ok {n L k : Nat} (hn : n ≤ 1024) (hL : L ≤ 5) (hk : k < nodN n L) : TlN n (tlK n L k) ∧ k % 4 < (tlK n L k).W := by
  have h1 := nodN_le n L
  have h2 : widN n L (k / 4) = min 4 ((nodN n L : Int) - ((k / 4 : Nat) : Int) * 4) := rfl
  unfold TlN TlOk tlK
  simp only
  refine ⟨⟨⟨hL, by omega, by omega, by omega⟩, by omega⟩, by omega⟩
theorem tlv_K {n L k : Nat} (hn : n ≤ 1024) (hL : L ≤ 5) (hk : k < nodN n L) : tlv (tlK n L k) = tv L ((k / 4 : Nat) : Int) (widN n L (k / 4)) := by
  have h := (tlK_ok hn hL hk).1.2
  unfold tlv
  rw [h]
  rfl
def NodeIs {B : Nat} (S : Src B) (n g : Nat) (A0 A : List Tl) (F : Nat → Prop) (w : World) (L k : Nat) (e : Ending) (w' : World) : Prop :=
  ∃ A' F' x, e = .returned (.string x) ∧ RN S n g A0 A F w 1 A' F' w' ∧ x.size ≤ 32 ∧ (errA S A' = 0 → tlK n L k ∈ A' ∧ x = hshT (S.ans (tlK n L k)).1 (k % 4))
set_option maxHeartbeats 3200000 in
set_option maxRecDepth 100000 in
theorem node_any {B : Nat} (S : Src B) (n g : Nat) (A0 A : List Tl) (F : Nat → Prop) (L k : Nat) (w : World) (h : RdAt S n g A0 A F w) (hL : Ld B w) (hB : B ≤ w.heap.size) (hn : n ≤ 1024) (hL5 : L ≤ 5) (hk : k < nodN n L) (hl : A0.length + A.length ≤ 80000) :
    Calls Tryd.prog 66 #[.pointer (some ⟨g, 0, none⟩), .int .i64 (L : Int), .int .i64 (k : Int)] w (NodeIs S n g A0 A F w L k) := by
  have hkn := nodN_le n L
  have hW := widest_any n L (k / 4) w (by omega) (by omega) (by omega)
  obtain ⟨hok, hk4⟩ := tlK_ok hn hL5 hk
  rw [← tlv_K hn hL5 hk] at hW
  have hT := fun w' (hb : Below w.heap.size w w') => text_any S n g A0 A F (tlK n L k) w' (h.here hb) (hL.here hb hB) (Nat.le_trans hB hb.size) hok hl
  obtain ⟨t, ht⟩ : ∃ t, tlK n L k = t := ⟨_, rfl⟩
  unfold NodeIs
  rw [ht] at hW hT hk4 hok ⊢
  obtain ⟨v, Fs, hG, _⟩ := h.ex
  have c1 := hG.blk.cell 1
  simp only [List.getElem?_cons_zero, List.getElem?_cons_succ] at c1
  have hq : ((k / 4 : Nat) : Int) = (k : Int) / 4 := by omega
  rw [hq] at hW
  replace hT := Box.mk hT
  replace hok := Box.mk hok
  clear h hL hG ht hq
  unfold tlv tv at *
  go_enter Tryd.func66, Tryd.ntmps66
  go_wp2_with fail
  refine hW.mono ?_
  clear hW
  rintro e w1 ⟨rfl, hb1⟩
  have hT1 := hT.out w1 hb1
  replace hb1 := Box.mk hb1
  clear hT
  go_wp2_with fail
  refine hT1.mono ?_
  clear hT1
  rintro e w2 ⟨A', F', x, rfl, hR, hx⟩
  have hR2 := Box.mk (RN.of hb1.out hR)
  obtain ⟨v2, Fs2, hG2, _⟩ := hR.at_.ex
  have c3 := hG2.blk.cell 3
  simp only [List.getElem?_cons_zero, List.getElem?_cons_succ] at c3
  clear hG2
  by_cases he : errA S A' = 0
  · obtain ⟨hm, hxx⟩ := hx he
    have hsz := S.size t (hR.at_.good he t hm)
    rw [← hxx] at hsz
    have hm4 : (((k % 4 : Nat) : Int)) = (k : Int) % 4 := by omega
    have hd : x.extract ((k % 4) * 32) ((k % 4) * 32 + 32) = hshT (S.ans t).1 (k % 4) := by rw [hxx]; rfl
    rw [he] at c3
    replace hd := Box.mk hd
    replace hm := Box.mk hm
    clear hR hx hxx he
    go_wp2_with fail
    go_ret
    exact ⟨A', F', _, rfl, hR2.out, hshT_size x (k % 4), fun _ => ⟨hm.out, hd.out⟩⟩
  · have heb : (errA S A' != 0) = true := by simpa using he
    obtain ⟨E, hE⟩ : ∃ E, errA S A' = E := ⟨_, rfl⟩
    rw [hE] at c3 heb he
    replace hE := Box.mk hE
    replace he := Box.mk he
    clear hR hx
    go_wp2_with fail
    go_ret
    exact ⟨A', F', _, rfl, hR2.out, by decide, fun h => absurd (hE.out.symm.trans h) he.out⟩
/-- A part of a list of n that is under one node. -/
def Part (n f s : Nat) : Prop := 1 ≤ s ∧ f + s ≤ n ∧ ∃ h, s ≤ 2 ^ h ∧ 2 ^ h ∣ f
theorem Part.all {n : Nat} (h : 1 ≤ n) : Part n 0 n := ⟨h, by omega, n, Nat.le_of_lt Nat.lt_two_pow_self, Nat.dvd_zero _⟩
theorem Part.cut {n f s : Nat} (h : Part n f s) (h2 : 2 ≤ s) : Part n f (cutN s) ∧ Part n (f + cutN s) (s - cutN s) := by
  obtain ⟨h1, h3, j, h4, h5⟩ := h
  have hlt := cutN_lt h2
  have hpos := cutN_pos s
  have hge := cutN_ge s
  have hcj : cutN s ∣ 2 ^ j := by
    unfold cutN at hlt ⊢
    refine Nat.pow_dvd_pow 2 ?_
    rcases Nat.lt_or_ge (s - 1).log2 j with h | h
    · omega
    · exfalso
      have := Nat.pow_le_pow_right (show 0 < 2 by decide) h
      omega
  have hcf : cutN s ∣ f := Nat.dvd_trans hcj h5
  have hc : ∃ i, cutN s = 2 ^ i := ⟨_, rfl⟩
  obtain ⟨i, hi⟩ := hc
  refine ⟨⟨by omega, by omega, i, by omega, by rw [← hi]; exact hcf⟩, by omega, by omega, i, by omega, ?_⟩
  rw [← hi]
  exact Nat.dvd_add hcf (Nat.dvd_refl _)
/-- A part that a tile has the node of. -/
theorem Part.node {n f s L : Nat} (h : Part n f s) (hL : lvP s = some L) : f / s < nodN n L ∧ f = f / s * s ∧ s = 4 ^ L ∧ L ≤ 5 := by
  obtain ⟨hs, h5⟩ := lvP_some hL
  obtain ⟨h1, h3, j, h4, hd⟩ := h
  have hsd : s ∣ f := by
    refine Nat.dvd_trans ?_ hd
    rw [hs, pow4]
    refine Nat.pow_dvd_pow 2 ?_
    rcases Nat.lt_or_ge j (2 * L) with h | h
    · exfalso
      have := Nat.pow_lt_pow_right (show 1 < 2 by decide) h
      rw [hs, pow4] at h4
      omega
    · exact h
  obtain ⟨q, rfl⟩ := hsd
  have hq : s * q / s = q := Nat.mul_div_cancel_left q h1
  refine ⟨?_, by rw [hq, Nat.mul_comm], hs, h5⟩
  rw [hq]
  unfold nodN
  rw [← hs]
  have : q + 1 ≤ n / s := by
    rw [Nat.le_div_iff_mul_le h1, Nat.add_mul, Nat.one_mul, Nat.mul_comm]; exact h3
  omega
def rootG (G : Nat → Nat → ByteArray) (f s : Nat) : ByteArray :=
  match lvP s with
  | some L => G L (f / s)
  | none => if _h : s ≤ 1 then ByteArray.empty else nodeH (rootG G f (cutN s)) (rootG G (f + cutN s) (s - cutN s))
termination_by s
decreasing_by
  · exact cutN_lt (by omega)
  · have := cutN_pos s; omega
theorem rootG_some {G : Nat → Nat → ByteArray} {f s L : Nat} (h : lvP s = some L) : rootG G f s = G L (f / s) := by rw [rootG, h]
theorem rootG_none {G : Nat → Nat → ByteArray} {f s : Nat} (h : lvP s = none) (h2 : 2 ≤ s) : rootG G f s = nodeH (rootG G f (cutN s)) (rootG G (f + cutN s) (s - cutN s)) := by
  conv => lhs; rw [rootG, h]
  simp only
  rw [dif_neg (by omega)]
/-- The node values that the tiles asked for tell. -/
def Tells {B : Nat} (S : Src B) (A : List Tl) (G : Nat → Nat → ByteArray) : Prop := ∀ t ∈ A, ∀ j, j < t.W → hshT (S.ans t).1 j = G t.L (4 * t.I + j)
theorem Tells.pre {B : Nat} {S : Src B} {A A' : List Tl} {G : Nat → Nat → ByteArray} (h : Tells S A' G) (hp : A <+: A') : Tells S A G := fun t ht => h t (hp.subset ht)
def RootIs {B : Nat} (S : Src B) (n g : Nat) (A0 A : List Tl) (F : Nat → Prop) (w : World) (f s : Nat) (e : Ending) (w' : World) : Prop :=
  ∃ A' F' x, e = .returned (.string x) ∧ RN S n g A0 A F w (2 * s) A' F' w' ∧ x.size ≤ 32 ∧ (errA S A' = 0 → ∀ G, Tells S A' G → x = rootG G f s)
/-- The boxes of the two halves. -/
def PB (b : Nat) (f k r : Nat) (w : World) : Prop := Pk.Blk w b [.int .i64 (f : Int), .int .i64 (k : Int)] 96 ∧ Pk.Blk w (b + 1) [.int .i64 ((f : Int) + (k : Int)), .int .i64 (r : Int)] 96
def PBc (b : Nat) (f k r : Nat) (w : World) : Prop := w.cell? ⟨b, 0, none⟩ = some (.int .i64 (f : Int)) ∧ w.cell? ⟨b, 1, none⟩ = some (.int .i64 (k : Int)) ∧ w.cell? ⟨b + 1, 0, none⟩ = some (.int .i64 ((f : Int) + (k : Int))) ∧ w.cell? ⟨b + 1, 1, none⟩ = some (.int .i64 (r : Int))
theorem PB.cells {b f k r : Nat} {w : World} (h : PB b f k r w) : PBc b f k r w := ⟨h.1.cell 0, h.1.cell 1, h.2.cell 0, h.2.cell 1⟩
theorem PB.rn {B : Nat} {S : Src B} {n g : Nat} {A0 A A' : List Tl} {F F' : Nat → Prop} {w w' : World} {d : Nat} {b f k r : Nat} (h : PB b f k r w) (hR : RN S n g A0 A F w d A' F' w') (hF : ∀ q, F q → q < b ∨ b + 1 < q) : PB b f k r w' :=
  ⟨hR.blk h.1 fun e => by have := hF _ e; omega, hR.blk h.2 fun e => by have := hF _ e; omega⟩
set_option maxHeartbeats 6400000 in
set_option maxRecDepth 100000 in
theorem kroot_any {B : Nat} (S : Src B) (n g : Nat) (A0 : List Tl) (hn : n ≤ 1024) : ∀ (s f : Nat) (A : List Tl) (F : Nat → Prop) (w : World), RdAt S n g A0 A F w → Ld B w → B ≤ w.heap.size → Part n f s → A0.length + A.length + 2 * s ≤ 80000 →
    Calls Tryd.prog 47 #[.pointer (some ⟨g, 0, none⟩), pv f s] w (RootIs S n g A0 A F w f s) := by
  intro s
  induction s using Nat.strongRecOn with
  | ind s ih =>
    intro f A F w h hL hB hP hl
    have hs1 := hP.1
    have hfs := hP.2.1
    have hbx := bel_alloc w (.cells #[.int .i64 (f : Int), .int .i64 (s : Int)] 96)
    have hc := fun w1 h => Box2.of (x := .int .i64 (f : Int)) (y := .int .i64 (s : Int)) (t := 96) (w := w) (w1 := w1) rfl h
    have hLv := level_any f s (w.alloc (.cells #[.int .i64 (f : Int), .int .i64 (s : Int)] 96)) (hL.here hbx hB).tis hs1 (by omega)
    unfold pv LvIs at hLv
    unfold pv RootIs
    replace hc := Box.mk hc
    cases hlv : lvP s with
    | some L =>
      obtain ⟨hk, hff, h4, hL5⟩ := hP.node hlv
      have hN := fun w' (hb : Below w.heap.size w w') => node_any S n g A0 A F L (f / s) w' (h.here hb) (hL.here hb hB) (Nat.le_trans hB hb.size) hn hL5 hk (by omega)
      have hG := Box.mk (fun (G : Nat → Nat → ByteArray) => rootG_some (G := G) (f := f) hlv)
      rw [hlv] at hLv
      have hfi : ((f / s : Nat) : Int) = wrap64 ((f : Int) / (s : Int)) := by
        rw [← Int.natCast_ediv]
        have := Nat.div_le_self f s
        generalize f / s = q at *
        unfold wrap64; omega
      rw [hfi] at hN
      have hs0 : ¬ (s : Int) = 0 := by omega
      replace hN := Box.mk hN
      replace h := Box.mk h
      replace hlv := Box.mk hlv
      replace hbx := Box.mk hbx
      replace hff := Box.mk hff
      replace h4 := Box.mk h4
      replace hk := Box.mk hk
      clear ih hP hL hfi
      go_enter Tryd.func47, Tryd.ntmps47
      go_wp2_with fail
      refine hLv.mono ?_
      clear hLv
      rintro e w1 ⟨⟨z, rfl, hz⟩, hb1⟩
      have hzz := hz L rfl
      subst hzz
      obtain ⟨c0, c1⟩ := (hc.out w1 hb1).now
      have hN1 := hN.out w1 (mono_bel hbx.out hb1 (Nat.le_refl _))
      replace hb1 := Box.mk (mono_bel hbx.out hb1 (Nat.le_refl _))
      clear hz hN hc
      simp only [Option.isSome]
      go_wp2_with fail
      refine hN1.mono ?_
      clear hN1
      rintro e w2 ⟨A', F', x, rfl, hR, hsz, hx⟩
      have hR2 := Box.mk (RN.of hb1.out hR)
      have hsz2 := Box.mk hsz
      have hx2 := Box.mk hx
      clear hR hsz hx
      go_wp2_with fail
      go_ret
      refine ⟨A', F', x, rfl, hR2.out.more (by omega), hsz2.out, fun he G hT => ?_⟩
      obtain ⟨hm, hxx⟩ := hx2.out he
      have := hT _ hm (f / s % 4) (tlK_ok hn hL5 hk.out).2
      rw [hG.out G, hxx, this]
      unfold tlK
      simp only
      congr 1
      omega
    | none =>
      have h2 : 2 ≤ s := by
        rcases Nat.lt_or_ge s 2 with h1 | h1
        · obtain rfl : s = 1 := by omega
          cases hlv
        · exact h1
      obtain ⟨hP1, hP2⟩ := hP.cut h2
      have hclt := cutN_lt h2
      have hcpos := cutN_pos s
      have hHv := fun w' => halves_any f s w' h2 (by omega) (by omega)
      have hG := Box.mk (fun (G : Nat → Nat → ByteArray) => rootG_none (G := G) (f := f) hlv h2)
      have ih1 := fun A F w' ha hl' hb' hl2 => ih (cutN s) hclt f A F w' ha hl' hb' hP1 hl2
      have ih2 := fun A F w' ha hl' hb' hl2 => ih (s - cutN s) (by omega) (f + cutN s) A F w' ha hl' hb' hP2 hl2
      rw [hlv] at hLv
      unfold hvV pv at hHv
      unfold pv RootIs at ih1 ih2
      obtain ⟨k, hk⟩ : ∃ k, cutN s = k := ⟨_, rfl⟩
      rw [hk] at hHv hG ih1 ih2 hclt hcpos
      have hND := fun l r (h1 : l.size ≤ 32) (h2 : r.size ≤ 32) w' (hK : KIs w') => tnode_any l r w' hK (by omega) (by omega)
      replace hND := Box.mk hND
      rw [show ((f + k : Nat) : Int) = (f : Int) + (k : Int) by omega] at ih2 hHv
      replace ih1 := Box.mk ih1
      replace ih2 := Box.mk ih2
      replace hHv := Box.mk hHv
      replace h := Box.mk h
      replace hL := Box.mk hL
      replace hlv := Box.mk hlv
      replace hbx := Box.mk hbx
      clear ih hP hP1 hP2 hk
      go_enter Tryd.func47, Tryd.ntmps47
      go_wp2_with fail
      refine hLv.mono ?_
      clear hLv
      rintro e w1 ⟨⟨z, rfl, hz⟩, hb1⟩
      obtain ⟨c0, c1⟩ := (hc.out w1 hb1).now
      have hH1 := hHv.out w1
      replace hb1 := Box.mk (mono_bel hbx.out hb1 (Nat.le_refl _))
      clear hz hc hHv hbx
      simp only [Option.isSome]
      go_wp2_with fail
      refine hH1.mono ?_
      clear hH1
      rintro e w2 ⟨rfl, hb2⟩
      have hb3 := Box.mk (mono_bel hb1.out hb2 (Nat.le_refl _))
      clear hb1 hb2 c0 c1
      go_wp2_with fail
      obtain ⟨wd, hwd⟩ : ∃ wd, ((w2.alloc (.cells #[.int .i64 (f : Int), .int .i64 (k : Int)] 96)).alloc (.cells #[.int .i64 ((f : Int) + (k : Int)), .int .i64 ((s - k : Nat) : Int)] 96)).drew = wd := ⟨_, rfl⟩
      have hbd : Below w2.heap.size w2 wd := by rw [← hwd]; exact (mono_bel (bel_alloc _ _) (bel_alloc _ _) (Nat.le_refl _)).drew
      have hbb : PB (w2.heap.size) f k (s - k) wd := by
        rw [← hwd]
        refine ⟨(Below.heap_alloc _ _ _ (by simp)).trans (Pk.Blk.new w2 _ _), ?_⟩
        have := Pk.Blk.new (w2.alloc (.cells #[.int .i64 (f : Int), .int .i64 (k : Int)] 96)) [.int .i64 ((f : Int) + (k : Int)), .int .i64 ((s - k : Nat) : Int)] 96
        rw [show (w2.alloc (.cells #[.int .i64 (f : Int), .int .i64 (k : Int)] 96)).heap.size = w2.heap.size + 1 by simp] at this
        exact this
      have hbw := mono_bel hb3.out hbd (Nat.le_refl _)
      have h3 := hb3.out.size
      have hFw := h.out.lt
      have hd := h.out.here hbw
      have hLd := hL.out.here hbw hB
      have hst := Box.mk (RN.still h.out hbw)
      replace hbb := Box.mk hbb
      replace hd := Box.mk hd
      replace hLd := Box.mk hLd
      replace hFw := Box.mk hFw
      have hsz := Box.mk (And.intro hbw.size hbd.size)
      clear hbd hbw h hL hb3
      refine region_steadyD (PBc w2.heap.size f k (s - k)) (fun w' => w' = wd) (fun w w' => w = w') rfl hwd ?_
      refine anyS_calms [0, 1, 3, 4] 4 rfl (fun _ => rfl) (st_eqD fun w' e => e ▸ hbb.out.cells) (by kernel_rfl) (by kernel_rfl) (by kernel_rfl) ?_
      simp [nth]
      try simp only [Act.put, List.setIfInBounds_toArray, List.set_cons_succ, List.set_cons_zero]
      repeat (go_big_quiet_step (first | exact fun _ => rfl | rfl))
      refine quiet_val rfl (.agg #[.int .i64 (f : Int), .int .i64 (k : Int)]) (fun w' hw' => by obtain ⟨h3, h4, _, _⟩ := hw'; go_simp) ?_
      simp only [Act.put, List.setIfInBounds_toArray, List.set_cons_succ, List.set_cons_zero]
      repeat (go_big_quiet_step (first | exact fun _ => rfl | rfl))
      refine quiet_val rfl (.agg #[.int .i64 ((f : Int) + (k : Int)), .int .i64 ((s - k : Nat) : Int)]) (fun w' hw' => by obtain ⟨_, _, h3, h4⟩ := hw'; go_simp) ?_
      simp only [Act.put, List.setIfInBounds_toArray, List.set_cons_succ, List.set_cons_zero]
      repeat (go_big_quiet_step (first | exact fun _ => rfl | rfl))
      refine wpQuiet_nil ?_
      refine anyS_forced 2 (by kernel_rfl) rfl rfl (fun wa hWa K hK => ?_)
      subst hWa
      have hC := ih1.out A F wa hd.out hLd.out (Nat.le_trans hB hsz.out.1) (by omega)
      go_simp
      refine hC.mono ?_
      clear hC
      rintro e wb ⟨A1, F1, x1, rfl, hR1, hz1, hx1⟩
      have hbb1 : PB w2.heap.size f k (s - k) wb := hbb.out.rn hR1 (fun q hq => by have := (hFw.out q hq).2; omega)
      refine hK _ _ (fun w' => w' = wb) (st_eqD fun w' e => e ▸ hbb1.cells) rfl ?_
      have hA1 := hR1.len
      have hb1 := hR1.chg.size
      have hbl1 := hR1.below hd.out (Nat.le_trans hB hsz.out.1)
      have hF1 : Box (∀ q, F1 q → q < w2.heap.size ∨ w2.heap.size + 1 < q) := ⟨fun q hq => by
        rcases hR1.foot q hq with h1 | h1
        · have := (hFw.out q h1).2; omega
        · have := Pk.Blk.lt hbb.out.2; omega⟩
      have hR1b := Box.mk (hst.out.trans hR1)
      have hat1 := Box.mk hR1.at_
      have hLd1 := Box.mk (hLd.out.below hbl1)
      have hsz1 := Box.mk (Nat.le_trans hsz.out.1 hb1)
      replace hbb1 := Box.mk hbb1
      replace hx1 := Box.mk hx1
      replace hA1 := Box.mk hA1
      clear hK K hR1 hb1 hbl1 hbb hst hd hLd ih1
      refine anyS_forced 5 (by kernel_rfl) rfl rfl (fun wc hWc K hK => ?_)
      subst hWc
      have hC := ih2.out A1 F1 wc hat1.out hLd1.out (Nat.le_trans hB hsz1.out) (by have := hA1.out; omega)
      go_simp
      refine hC.mono ?_
      clear hC
      rintro e wg ⟨A2, F2, x2, rfl, hR2, hz2, hx2⟩
      have hbb2 := Box.mk (hbb1.out.rn hR2 hF1.out)
      refine hK _ _ (fun w' => w' = wg) (st_eqD fun w' e => e ▸ hbb2.out.cells) rfl ?_
      have hLd2 := Box.mk (hLd1.out.below (hR2.below hat1.out (Nat.le_trans hB hsz1.out)))
      have hR3 := Box.mk (hR1b.out.trans hR2)
      have hpre := Box.mk hR2.pre
      have hat2 := Box.mk hR2.at_
      replace hx2 := Box.mk hx2
      clear hK K hR2 hR1b hat1 hLd1 hbb1 ih2 hF1
      refine anyS_forced 6 (by kernel_rfl) rfl rfl (fun wh hWh K hK => ?_)
      subst hWh
      have hC := hND.out x1 x2 hz1 hz2 wh hLd2.out.kis
      go_simp
      refine hC.mono ?_
      clear hC
      rintro e wi ⟨rfl, hbi⟩
      have hbb3 : PB w2.heap.size f k (s - k) wi := ⟨(hbi.block _ hbb2.out.1.lt).trans hbb2.out.1, (hbi.block _ hbb2.out.2.lt).trans hbb2.out.2⟩
      refine hK _ _ (fun w' => w' = wi) (st_eqD fun w' e => e ▸ hbb3.cells) rfl ?_
      have hR4 := Box.mk (hR3.out.trans (RN.still hat2.out hbi))
      replace hbb3 := Box.mk hbb3
      clear hK K hbi hbb2 hLd2 hR3 hND
      refine anyS_calms [7] 0 rfl (fun _ => rfl) (st_eqD fun w' e => e ▸ hbb3.out.cells) (by kernel_rfl) (by kernel_rfl) (by kernel_rfl) ?_
      simp [nth]
      try simp only [Act.put, List.setIfInBounds_toArray, List.set_cons_succ, List.set_cons_zero]
      repeat (go_big_quiet_step (first | exact fun _ => rfl | rfl))
      refine wpQuiet_nil ?_
      refine anyS_done (by kernel_rfl) (fun wj hj => ?_)
      subst hj
      go_wp2_with fail
      go_ret
      refine ⟨A2, F2, _, rfl, hR4.out.more (by omega), by rw [nodeH_size]; exact Nat.le_refl _, fun he G hT => ?_⟩
      have e1 := errA_pre hat2.out hpre.out he
      rw [hG.out G, ← hx1.out e1 G (hT.pre hpre.out), ← hx2.out he G hT]
end Go.Proofs.YtlkopllpadhnlaaDoor

namespace Go.Proofs.YtlkopllpadhnlaaDoor
open Go Go.RowKit

/-- A part on the way down from another. -/
inductive Und (pf ps : Nat) : Nat → Nat → Prop where
  | here : Und pf ps pf ps
  | left {f s : Nat} : 2 ≤ s → ¬ (pf = f ∧ ps = s) → pf < f + cutN s → Und pf ps f (cutN s) → Und pf ps f s
  | right {f s : Nat} : 2 ≤ s → ¬ (pf = f ∧ ps = s) → f + cutN s ≤ pf → Und pf ps (f + cutN s) (s - cutN s) → Und pf ps f s
def besG (G : Nat → Nat → ByteArray) (pf ps f s : Nat) : List ByteArray :=
  if pf = f ∧ ps = s then [] else if _h : s ≤ 1 then [] else
  if pf < f + cutN s then besG G pf ps f (cutN s) ++ [rootG G (f + cutN s) (s - cutN s)] else besG G pf ps (f + cutN s) (s - cutN s) ++ [rootG G f (cutN s)]
termination_by s
decreasing_by
  · exact cutN_lt (by omega)
  · have := cutN_pos s; omega
theorem besG_here (G : Nat → Nat → ByteArray) (f s : Nat) : besG G f s f s = [] := by rw [besG, if_pos ⟨rfl, rfl⟩]
theorem besG_left {G : Nat → Nat → ByteArray} {pf ps f s : Nat} (h2 : 2 ≤ s) (hn : ¬ (pf = f ∧ ps = s)) (h : pf < f + cutN s) : besG G pf ps f s = besG G pf ps f (cutN s) ++ [rootG G (f + cutN s) (s - cutN s)] := by
  conv => lhs; rw [besG]
  rw [if_neg hn, dif_neg (by omega), if_pos h]
theorem besG_right {G : Nat → Nat → ByteArray} {pf ps f s : Nat} (h2 : 2 ≤ s) (hn : ¬ (pf = f ∧ ps = s)) (h : f + cutN s ≤ pf) : besG G pf ps f s = besG G pf ps (f + cutN s) (s - cutN s) ++ [rootG G f (cutN s)] := by
  conv => lhs; rw [besG]
  rw [if_neg hn, dif_neg (by omega), if_neg (by omega)]
/-- A row of hashes beside a reader. -/
structure RowB {B : Nat} (S : Src B) (n g : Nat) (A0 : List Tl) (b0 : Nat) (v : Value) (P : List ByteArray) (A : List Tl) (F : Nat → Prop) (w : World) : Prop where
  at_ : RdAt S n g A0 A F w
  row : TxR b0 w v P
  vF : ∀ k, v.ownBlock = some k → ¬ F k
  sz : ∀ x ∈ P, x.size ≤ 32
  bB : B ≤ b0
theorem RowB.here {B : Nat} {S : Src B} {n g : Nat} {A0 A : List Tl} {b0 : Nat} {v : Value} {P : List ByteArray} {F : Nat → Prop} {w w' : World} (h : RowB S n g A0 b0 v P A F w) (hb : Below w.heap.size w w') : RowB S n g A0 b0 v P A F w' := ⟨h.at_.here hb, h.row.here hb, h.vF, h.sz, h.bB⟩
theorem RowB.next {B : Nat} {S : Src B} {n g : Nat} {A0 A A' : List Tl} {b0 : Nat} {v : Value} {P : List ByteArray} {F F' : Nat → Prop} {w w' : World} {d : Nat} (h : RowB S n g A0 b0 v P A F w) (hR : RN S n g A0 A F w d A' F' w') : RowB S n g A0 b0 v P A' F' w' :=
  ⟨hR.at_, h.row.chg hR.chg fun k hk e => h.vF k hk e, fun k hk e => by
    rcases hR.foot k e with h1 | h1
    · exact h.vF k hk h1
    · have := (h.row.own k hk).2; omega, h.sz, h.bB⟩
theorem RowB.push {B : Nat} {S : Src B} {n g : Nat} {A0 A : List Tl} {b0 : Nat} {v v' : Value} {P : List ByteArray} {F : Nat → Prop} {w w' : World} {x : ByteArray} (h : RowB S n g A0 b0 v P A F w) (hp : PushedT b0 w v (P ++ [x]) v' w') (hx : x.size ≤ 32) : RowB S n g A0 b0 v' (P ++ [x]) A F w' := by
  obtain ⟨u, Fs, hG, hF⟩ := h.at_.ex
  refine ⟨⟨⟨u, Fs, hG.on hp.chg (fun k hk e => h.vF k e ((hF k).2 hk)) (fun k e => Nat.le_trans h.bB (h.row.own k e).1), hF⟩, h.at_.tiles, h.at_.oks, h.at_.len⟩, hp.row, fun k hk e => ?_, fun y hy => ?_, h.bB⟩
  · rcases hp.place k hk with h1 | h1
    · exact h.vF k h1 e
    · have := (h.at_.lt k e).2; omega
  · rcases List.mem_append.1 hy with h1 | h1
    · exact h.sz y h1
    · rw [List.mem_singleton.1 h1]; exact hx
def BesIs {B : Nat} (S : Src B) (n g : Nat) (A0 A : List Tl) (F : Nat → Prop) (w : World) (pf ps f s : Nat) (e : Ending) (w' : World) : Prop :=
  ∃ A' F' v P, e = .returned v ∧ RN S n g A0 A F w (2 * s) A' F' w' ∧ RowB S n g A0 w.heap.size v P A' F' w' ∧ P.length ≤ s ∧ (errA S A' = 0 → ∀ G, Tells S A' G → P = besG G pf ps f s)
/-- The boxes in beside. -/
def PB4 (b4 b : Nat) (pf ps f k r : Nat) (w : World) : Prop := Pk.Blk w b4 [.int .i64 (pf : Int), .int .i64 (ps : Int)] 96 ∧ PB b f k r w
def PB4c (b4 b : Nat) (pf ps f k r : Nat) (w : World) : Prop := w.cell? ⟨b4, 0, none⟩ = some (.int .i64 (pf : Int)) ∧ w.cell? ⟨b4, 1, none⟩ = some (.int .i64 (ps : Int)) ∧ PBc b f k r w
theorem PB4.cells {b4 b pf ps f k r : Nat} {w : World} (h : PB4 b4 b pf ps f k r w) : PB4c b4 b pf ps f k r w := ⟨h.1.cell 0, h.1.cell 1, h.2.cells⟩
theorem PB4.on {b4 b pf ps f k r : Nat} {w w' : World} (h : PB4 b4 b pf ps f k r w) (hb : Below w.heap.size w w') : PB4 b4 b pf ps f k r w' := ⟨(hb.block _ h.1.lt).trans h.1, (hb.block _ h.2.1.lt).trans h.2.1, (hb.block _ h.2.2.lt).trans h.2.2⟩
theorem PB4.rn {B : Nat} {S : Src B} {n g : Nat} {A0 A A' : List Tl} {F F' : Nat → Prop} {w w' : World} {d : Nat} {b4 b pf ps f k r : Nat} (h : PB4 b4 b pf ps f k r w) (hR : RN S n g A0 A F w d A' F' w') (hF : ∀ q, F q → q ≠ b4 ∧ q ≠ b ∧ q ≠ b + 1) : PB4 b4 b pf ps f k r w' :=
  ⟨hR.blk h.1 fun e => (hF _ e).1 rfl, hR.blk h.2.1 fun e => (hF _ e).2.1 rfl, hR.blk h.2.2 fun e => (hF _ e).2.2 rfl⟩
theorem PB4.chg {T : Nat → Prop} {w w' : World} {b4 b pf ps f k r : Nat} (h : PB4 b4 b pf ps f k r w) (hc : Pk.Chg T w w') (hF : ∀ q, T q → q ≠ b4 ∧ q ≠ b ∧ q ≠ b + 1) : PB4 b4 b pf ps f k r w' :=
  ⟨hc.blk h.1 fun e => (hF _ e).1 rfl, hc.blk h.2.1 fun e => (hF _ e).2.1 rfl, hc.blk h.2.2 fun e => (hF _ e).2.2 rfl⟩
set_option maxHeartbeats 12800000 in
set_option maxRecDepth 100000 in
theorem beside_any {B : Nat} (S : Src B) (n g : Nat) (A0 : List Tl) (hn : n ≤ 1024) (pf ps : Nat) : ∀ (s f : Nat) (A : List Tl) (F : Nat → Prop) (w : World), Und pf ps f s → RdAt S n g A0 A F w → Ld B w → B ≤ w.heap.size → Part n f s → A0.length + A.length + 2 * s ≤ 80000 →
    Calls Tryd.prog 49 #[.pointer (some ⟨g, 0, none⟩), pv pf ps, pv f s] w (BesIs S n g A0 A F w pf ps f s) := by
  intro s
  induction s using Nat.strongRecOn with
  | ind s ih =>
    intro f A F w hU h hL hB hP hl
    have hBq := Box.mk hB
    have hs1 := hP.1
    have hfs := hP.2.1
    unfold BesIs
    obtain ⟨W0, hW0⟩ : ∃ W0, ((w.alloc (.cells #[.int .i64 (pf : Int), .int .i64 (ps : Int)] 96)).alloc (.cells #[.int .i64 (f : Int), .int .i64 (s : Int)] 96)) = W0 := ⟨_, rfl⟩
    have hb0 : Below w.heap.size w W0 := by rw [← hW0]; exact mono_bel (bel_alloc _ _) (bel_alloc _ _) (Nat.le_refl _)
    have k4 : Pk.Blk W0 w.heap.size [.int .i64 (pf : Int), .int .i64 (ps : Int)] 96 := by
      rw [← hW0]; exact (Below.heap_alloc _ _ _ (by simp)).trans (Pk.Blk.new w _ _)
    by_cases hpq : pf = f ∧ ps = s
    · obtain ⟨rfl, rfl⟩ := hpq
      have hG := Box.mk (fun (G : Nat → Nat → ByteArray) => besG_here G pf ps)
      have hst := Box.mk (RN.still h hb0)
      replace hW0 := Box.mk hW0
      clear ih hU h hL hB hP hl k4 hb0
      unfold pv
      go_enter Tryd.func49, Tryd.ntmps49
      go_wp2_with fail
      rw [hW0.out]
      go_ret
      exact ⟨A, F, _, [], rfl, hst.out.more (Nat.zero_le _), ⟨hst.out.at_, TxR.nil _ _, fun k hk => (by cases hk), fun x hx => (by cases hx), hBq.out⟩, Nat.zero_le _, fun _ G _ => (hG.out G).symm⟩
    · have hne : ¬ (pf : Int) = (f : Int) ∨ (pf = f ∧ ¬ (ps : Int) = (s : Int)) := by
        by_cases h1 : pf = f
        · exact .inr ⟨h1, fun h2 => hpq ⟨h1, by omega⟩⟩
        · exact .inl (by omega)
      have h2 : 2 ≤ s := by
        cases hU with
        | here => exact absurd ⟨rfl, rfl⟩ hpq
        | left h _ _ _ => exact h
        | right h _ _ _ => exact h
      obtain ⟨hP1, hP2⟩ := hP.cut h2
      have hclt := cutN_lt h2
      have hcpos := cutN_pos s
      have hHv := halves_any f s W0 h2 (by omega) (by omega)
      have hst := RN.still h hb0
      have hFw := Box.mk h.lt
      have hLd0 := hL.here hb0 hB
      by_cases hlr : pf < f + cutN s
      · have hU1 : Und pf ps f (cutN s) := by
          cases hU with
          | here => exact absurd ⟨rfl, rfl⟩ hpq
          | left _ _ _ h => exact h
          | right _ _ h _ => omega
        have hG := Box.mk (fun (G : Nat → Nat → ByteArray) => besG_left (G := G) h2 hpq hlr)
        have ih1 := fun A F w' ha hl' hb' hl2 => ih (cutN s) hclt f A F w' hU1 ha hl' hb' hP1 hl2
        have ih2 := fun A F w' ha hl' hb' hl2 => kroot_any S n g A0 hn (s - cutN s) (f + cutN s) A F w' ha hl' hb' hP2 hl2
        clear ih hU h hL hP hP1 hP2 hU1 hpq hb0
        unfold hvV pv at hHv
        unfold pv RootIs at ih2
        unfold pv BesIs at ih1
        obtain ⟨k, hk⟩ : ∃ k, cutN s = k := ⟨_, rfl⟩
        rw [hk] at hHv hG ih1 ih2 hclt hcpos hlr
        rw [show ((f + k : Nat) : Int) = (f : Int) + (k : Int) by omega] at hHv ih2
        have hlri : (pf : Int) < (f : Int) + (k : Int) := by omega
        obtain ⟨j0, j1⟩ := And.intro (k4.cell 0) (k4.cell 1)
        simp only [List.getElem?_cons_zero, List.getElem?_cons_succ] at j0 j1
        replace ih1 := Box.mk ih1
        replace ih2 := Box.mk ih2
        replace hHv := Box.mk hHv
        replace hst := Box.mk hst
        replace hLd0 := Box.mk hLd0
        replace hW0 := Box.mk hW0
        replace k4 := Box.mk k4
        clear hk j0 j1
        unfold pv
        go_enter Tryd.func49, Tryd.ntmps49
        rcases hne with hne | ⟨hne0, hne⟩
        · go_wp2_with fail
          rw [hW0.out]
          refine hHv.out.mono ?_
          rintro e w2 ⟨rfl, hb2⟩
          have k42 := Box.mk ((hb2.block _ (Pk.Blk.lt k4.out)).trans k4.out)
          have hst2 := Box.mk (hst.out.trans (RN.still hst.out.at_ hb2))
          have hLd2 := Box.mk (hLd0.out.here hb2 (Nat.le_trans hB (hst.out.chg.size)))
          have hsz2 := Box.mk (And.intro (Pk.Blk.lt k42.out) hst2.out.chg.size)
          clear hb2 hHv hst hLd0 k4
          have j0 := Pk.Blk.cell k42.out 0
          have j1 := Pk.Blk.cell k42.out 1
          simp only [List.getElem?_cons_zero, List.getElem?_cons_succ] at j0 j1
          have hlt4 : w.heap.size < w2.heap.size := hsz2.out.1
          go_wp2_with fail
          clear j0 j1
          obtain ⟨wd, hwd⟩ : ∃ wd, ((w2.alloc (.cells #[.int .i64 (f : Int), .int .i64 (k : Int)] 96)).alloc (.cells #[.int .i64 ((f : Int) + (k : Int)), .int .i64 ((s - k : Nat) : Int)] 96)).drew = wd := ⟨_, rfl⟩
          have hbd : Below w2.heap.size w2 wd := by rw [← hwd]; exact (mono_bel (bel_alloc _ _) (bel_alloc _ _) (Nat.le_refl _)).drew
          have hbb : PB4 w.heap.size (w2.heap.size) pf ps f k (s - k) wd := by
            refine ⟨(hbd.block _ (Pk.Blk.lt k42.out)).trans k42.out, ?_⟩
            rw [← hwd]
            refine ⟨(Below.heap_alloc _ _ _ (by simp)).trans (Pk.Blk.new w2 _ _), ?_⟩
            have := Pk.Blk.new (w2.alloc (.cells #[.int .i64 (f : Int), .int .i64 (k : Int)] 96)) [.int .i64 ((f : Int) + (k : Int)), .int .i64 ((s - k : Nat) : Int)] 96
            rw [show (w2.alloc (.cells #[.int .i64 (f : Int), .int .i64 (k : Int)] 96)).heap.size = w2.heap.size + 1 by simp] at this
            exact this
          have hst3 := Box.mk (hst2.out.trans (RN.still hst2.out.at_ hbd))
          have hd := Box.mk hst3.out.at_
          have hLd := Box.mk (hLd2.out.here hbd (Nat.le_trans hB hst2.out.chg.size))
          have hsz := Box.mk hst3.out.chg.size
          have hNF : Box (∀ q, F q → q ≠ w.heap.size ∧ q ≠ w2.heap.size ∧ q ≠ w2.heap.size + 1) := ⟨fun q hq => by have := (hFw.out q hq).2; omega⟩
          replace hbb := Box.mk hbb
          clear hbd hst2 hLd2 k42 hFw
          refine region_steadyD (PB4c w.heap.size w2.heap.size pf ps f k (s - k)) (fun w' => w' = wd) (fun w w' => w = w') rfl hwd ?_
          refine anyS_calms [0, 1, 2, 4, 5] 5 rfl (fun _ => rfl) (st_eqD fun w' e => e ▸ hbb.out.cells) (by kernel_rfl) (by kernel_rfl) (by kernel_rfl) ?_
          simp [nth]
          try simp only [Act.put, List.setIfInBounds_toArray, List.set_cons_succ, List.set_cons_zero]
          repeat (go_big_quiet_step (first | exact fun _ => rfl | rfl))
          refine quiet_val rfl (.agg #[.int .i64 (pf : Int), .int .i64 (ps : Int)]) (fun w' hw' => by obtain ⟨h3, h4, _⟩ := hw'; go_simp) ?_
          simp only [Act.put, List.setIfInBounds_toArray, List.set_cons_succ, List.set_cons_zero]
          repeat (go_big_quiet_step (first | exact fun _ => rfl | rfl))
          refine quiet_val rfl (.agg #[.int .i64 (f : Int), .int .i64 (k : Int)]) (fun w' hw' => by obtain ⟨_, _, h3, h4, h5, h6⟩ := hw'; go_simp) ?_
          simp only [Act.put, List.setIfInBounds_toArray, List.set_cons_succ, List.set_cons_zero]
          repeat (go_big_quiet_step (first | exact fun _ => rfl | rfl))
          refine quiet_val rfl (.agg #[.int .i64 ((f : Int) + (k : Int)), .int .i64 ((s - k : Nat) : Int)]) (fun w' hw' => by obtain ⟨_, _, h3, h4, h5, h6⟩ := hw'; go_simp) ?_
          simp only [Act.put, List.setIfInBounds_toArray, List.set_cons_succ, List.set_cons_zero]
          repeat (go_big_quiet_step (first | exact fun _ => rfl | rfl))
          refine wpQuiet_nil ?_
          refine anyS_forced 3 (by kernel_rfl) rfl rfl (fun wa hWa K hK => ?_)
          subst hWa
          have hC := ih1.out A F wa hd.out hLd.out (Nat.le_trans hB hsz.out) (by omega)
          go_simp
          refine hC.mono ?_
          clear hC
          rintro e wb ⟨A1, F1, v1, P1, rfl, hR1, hB1, hp1, hx1⟩
          have hbb1 : PB4 w.heap.size w2.heap.size pf ps f k (s - k) wb := hbb.out.rn hR1 hNF.out
          refine hK _ _ (fun w' => w' = wb) (st_eqD fun w' e => e ▸ hbb1.cells) rfl ?_
          have hF1 : Box (∀ q, F1 q → q ≠ w.heap.size ∧ q ≠ w2.heap.size ∧ q ≠ w2.heap.size + 1) := ⟨fun q hq => by
            rcases hR1.foot q hq with h1 | h1
            · exact hNF.out q h1
            · have := hbb.out.1.lt; have := hbb.out.2.1.lt; have := hbb.out.2.2.lt; omega⟩
          have hA1 := Box.mk hR1.len
          have hLd1 := Box.mk (hLd.out.below (hR1.below hd.out (Nat.le_trans hB hsz.out)))
          have hsz1 := Box.mk (Nat.le_trans hsz.out hR1.chg.size)
          have hR1b := Box.mk (hst3.out.trans hR1)
          have hv1 : Box (∀ q, v1.ownBlock = some q → q ≠ w.heap.size ∧ q ≠ w2.heap.size ∧ q ≠ w2.heap.size + 1) := ⟨fun q hq => by
            have := (hB1.row.own q hq).1; have := hbb.out.1.lt; have := hbb.out.2.1.lt; have := hbb.out.2.2.lt; omega⟩
          replace hB1 := Box.mk ({ hB1 with row := hB1.row.base hsz.out, bB := hBq.out } : RowB S n g A0 w.heap.size v1 P1 A1 F1 wb)
          replace hbb1 := Box.mk hbb1
          replace hx1 := Box.mk hx1
          replace hp1 := Box.mk hp1
          clear hK K hR1 hbb hst3 hd hLd ih1 hNF
          refine anyS_forced 6 (by kernel_rfl) rfl rfl (fun wc hWc K hK => ?_)
          subst hWc
          have hC := ih2.out A1 F1 wc hB1.out.at_ hLd1.out (Nat.le_trans hB hsz1.out) (by have := hA1.out; omega)
          go_simp
          refine hC.mono ?_
          clear hC
          rintro e wg ⟨A2, F2, x2, rfl, hR2, hz2, hx2⟩
          have hbb2 := Box.mk (hbb1.out.rn hR2 hF1.out)
          refine hK _ _ (fun w' => w' = wg) (st_eqD fun w' e => e ▸ hbb2.out.cells) rfl ?_
          have hB2 := Box.mk (hB1.out.next hR2)
          have hR3 := Box.mk (hR1b.out.trans hR2)
          have hpre := Box.mk hR2.pre
          have hsz2 := Box.mk (Nat.le_trans hsz1.out hR2.chg.size)
          replace hx2 := Box.mk hx2
          replace hz2 := Box.mk hz2
          clear hK K hR2 hR1b hB1 hLd1 hbb1 ih2 hF1 hsz1
          refine anyS_forced 7 (by kernel_rfl) rfl rfl (fun wh hWh K hK => ?_)
          subst hWh
          obtain ⟨a1, c1, rfl⟩ := hB2.out.row.shape
          have hz := Box.mk (parts_new wh [x2] 9)
          have hB3 := Box.mk (hB2.out.here (bel_alloc wh (.cells #[.string x2] 9)))
          have hR4 := Box.mk (hR3.out.trans (RN.still hB2.out.at_ (bel_alloc wh (.cells #[.string x2] 9))))
          have hbb3 := Box.mk (hbb2.out.on (bel_alloc wh (.cells #[.string x2] 9)))
          go_simp
          refine hK _ _ (fun w' => w' = wh.alloc (.cells #[.string x2] 9)) (st_eqD fun w' e => e ▸ hbb3.out.cells) rfl ?_
          clear hK K hB2 hbb2 hR3
          refine anyS_forced 8 (by kernel_rfl) rfl rfl (fun wi hWi K hK => ?_)
          subst hWi
          refine wp_pushT (.tmp 25) (.tmp 29) rfl w.heap.size _ P1 [x2] rfl hB3.out.row (Nat.le_trans hsz2.out (by simp)) (some ⟨wh.heap.size, 0, none⟩) 1 1 rfl rfl hz.out (by have := hp1.out; omega) ?_
          intro v' w5 hp5
          have hB5 := Box.mk (hB3.out.push hp5 hz2.out)
          have hbb5 := Box.mk (hbb3.out.chg hp5.chg hv1.out)
          have hR5 : Box (RN S n g A0 A F w (2 * s) A2 F2 w5) := ⟨hB5.out.at_, hR4.out.chg.trans hp5.chg fun i hi e => absurd (hB3.out.row.own i e).1 (by omega), fun q hq => (hR4.out.foot q hq), hR4.out.pre, by have := hR4.out.len; have := hA1.out; omega⟩
          refine hK _ _ (fun w' => w' = w5) (st_eqD fun w' e => e ▸ hbb5.out.cells) rfl ?_
          clear hK K hp5 hz hB3 hbb3 hR4
          refine anyS_calms [9] 0 rfl (fun _ => rfl) (st_eqD fun w' e => e ▸ hbb5.out.cells) (by kernel_rfl) (by kernel_rfl) (by kernel_rfl) ?_
          simp [nth]
          try simp only [Act.put, List.setIfInBounds_toArray, List.set_cons_succ, List.set_cons_zero]
          repeat (go_big_quiet_step (first | exact fun _ => rfl | rfl))
          refine wpQuiet_nil ?_
          refine anyS_done (by kernel_rfl) (fun wj hj => ?_)
          subst hj
          go_wp2_with fail
          go_ret
          refine ⟨A2, F2, _, P1 ++ [x2], rfl, hR5.out, hB5.out, by have := hp1.out; simp; omega, fun he G hT => ?_⟩
          have e1 := errA_pre hB5.out.at_ hpre.out he
          rw [hG.out G, ← hx1.out e1 G (hT.pre hpre.out), ← hx2.out he G hT]
        · subst hne0
          go_wp2_with fail
          rw [hW0.out]
          refine hHv.out.mono ?_
          rintro e w2 ⟨rfl, hb2⟩
          have k42 := Box.mk ((hb2.block _ (Pk.Blk.lt k4.out)).trans k4.out)
          have hst2 := Box.mk (hst.out.trans (RN.still hst.out.at_ hb2))
          have hLd2 := Box.mk (hLd0.out.here hb2 (Nat.le_trans hB (hst.out.chg.size)))
          have hsz2 := Box.mk (And.intro (Pk.Blk.lt k42.out) hst2.out.chg.size)
          clear hb2 hHv hst hLd0 k4
          have j0 := Pk.Blk.cell k42.out 0
          have j1 := Pk.Blk.cell k42.out 1
          simp only [List.getElem?_cons_zero, List.getElem?_cons_succ] at j0 j1
          have hlt4 : w.heap.size < w2.heap.size := hsz2.out.1
          go_wp2_with fail
          clear j0 j1
          obtain ⟨wd, hwd⟩ : ∃ wd, ((w2.alloc (.cells #[.int .i64 (pf : Int), .int .i64 (k : Int)] 96)).alloc (.cells #[.int .i64 ((pf : Int) + (k : Int)), .int .i64 ((s - k : Nat) : Int)] 96)).drew = wd := ⟨_, rfl⟩
          have hbd : Below w2.heap.size w2 wd := by rw [← hwd]; exact (mono_bel (bel_alloc _ _) (bel_alloc _ _) (Nat.le_refl _)).drew
          have hbb : PB4 w.heap.size (w2.heap.size) pf ps pf k (s - k) wd := by
            refine ⟨(hbd.block _ (Pk.Blk.lt k42.out)).trans k42.out, ?_⟩
            rw [← hwd]
            refine ⟨(Below.heap_alloc _ _ _ (by simp)).trans (Pk.Blk.new w2 _ _), ?_⟩
            have := Pk.Blk.new (w2.alloc (.cells #[.int .i64 (pf : Int), .int .i64 (k : Int)] 96)) [.int .i64 ((pf : Int) + (k : Int)), .int .i64 ((s - k : Nat) : Int)] 96
            rw [show (w2.alloc (.cells #[.int .i64 (pf : Int), .int .i64 (k : Int)] 96)).heap.size = w2.heap.size + 1 by simp] at this
            exact this
          have hst3 := Box.mk (hst2.out.trans (RN.still hst2.out.at_ hbd))
          have hd := Box.mk hst3.out.at_
          have hLd := Box.mk (hLd2.out.here hbd (Nat.le_trans hB hst2.out.chg.size))
          have hsz := Box.mk hst3.out.chg.size
          have hNF : Box (∀ q, F q → q ≠ w.heap.size ∧ q ≠ w2.heap.size ∧ q ≠ w2.heap.size + 1) := ⟨fun q hq => by have := (hFw.out q hq).2; omega⟩
          replace hbb := Box.mk hbb
          clear hbd hst2 hLd2 k42 hFw
          refine region_steadyD (PB4c w.heap.size w2.heap.size pf ps pf k (s - k)) (fun w' => w' = wd) (fun w w' => w = w') rfl hwd ?_
          refine anyS_calms [0, 1, 2, 4, 5] 5 rfl (fun _ => rfl) (st_eqD fun w' e => e ▸ hbb.out.cells) (by kernel_rfl) (by kernel_rfl) (by kernel_rfl) ?_
          simp [nth]
          try simp only [Act.put, List.setIfInBounds_toArray, List.set_cons_succ, List.set_cons_zero]
          repeat (go_big_quiet_step (first | exact fun _ => rfl | rfl))
          refine quiet_val rfl (.agg #[.int .i64 (pf : Int), .int .i64 (ps : Int)]) (fun w' hw' => by obtain ⟨h3, h4, _⟩ := hw'; go_simp) ?_
          simp only [Act.put, List.setIfInBounds_toArray, List.set_cons_succ, List.set_cons_zero]
          repeat (go_big_quiet_step (first | exact fun _ => rfl | rfl))
          refine quiet_val rfl (.agg #[.int .i64 (pf : Int), .int .i64 (k : Int)]) (fun w' hw' => by obtain ⟨_, _, h3, h4, h5, h6⟩ := hw'; go_simp) ?_
          simp only [Act.put, List.setIfInBounds_toArray, List.set_cons_succ, List.set_cons_zero]
          repeat (go_big_quiet_step (first | exact fun _ => rfl | rfl))
          refine quiet_val rfl (.agg #[.int .i64 ((pf : Int) + (k : Int)), .int .i64 ((s - k : Nat) : Int)]) (fun w' hw' => by obtain ⟨_, _, h3, h4, h5, h6⟩ := hw'; go_simp) ?_
          simp only [Act.put, List.setIfInBounds_toArray, List.set_cons_succ, List.set_cons_zero]
          repeat (go_big_quiet_step (first | exact fun _ => rfl | rfl))
          refine wpQuiet_nil ?_
          refine anyS_forced 3 (by kernel_rfl) rfl rfl (fun wa hWa K hK => ?_)
          subst hWa
          have hC := ih1.out A F wa hd.out hLd.out (Nat.le_trans hB hsz.out) (by omega)
          go_simp
          refine hC.mono ?_
          clear hC
          rintro e wb ⟨A1, F1, v1, P1, rfl, hR1, hB1, hp1, hx1⟩
          have hbb1 : PB4 w.heap.size w2.heap.size pf ps pf k (s - k) wb := hbb.out.rn hR1 hNF.out
          refine hK _ _ (fun w' => w' = wb) (st_eqD fun w' e => e ▸ hbb1.cells) rfl ?_
          have hF1 : Box (∀ q, F1 q → q ≠ w.heap.size ∧ q ≠ w2.heap.size ∧ q ≠ w2.heap.size + 1) := ⟨fun q hq => by
            rcases hR1.foot q hq with h1 | h1
            · exact hNF.out q h1
            · have := hbb.out.1.lt; have := hbb.out.2.1.lt; have := hbb.out.2.2.lt; omega⟩
          have hA1 := Box.mk hR1.len
          have hLd1 := Box.mk (hLd.out.below (hR1.below hd.out (Nat.le_trans hB hsz.out)))
          have hsz1 := Box.mk (Nat.le_trans hsz.out hR1.chg.size)
          have hR1b := Box.mk (hst3.out.trans hR1)
          have hv1 : Box (∀ q, v1.ownBlock = some q → q ≠ w.heap.size ∧ q ≠ w2.heap.size ∧ q ≠ w2.heap.size + 1) := ⟨fun q hq => by
            have := (hB1.row.own q hq).1; have := hbb.out.1.lt; have := hbb.out.2.1.lt; have := hbb.out.2.2.lt; omega⟩
          replace hB1 := Box.mk ({ hB1 with row := hB1.row.base hsz.out, bB := hBq.out } : RowB S n g A0 w.heap.size v1 P1 A1 F1 wb)
          replace hbb1 := Box.mk hbb1
          replace hx1 := Box.mk hx1
          replace hp1 := Box.mk hp1
          clear hK K hR1 hbb hst3 hd hLd ih1 hNF
          refine anyS_forced 6 (by kernel_rfl) rfl rfl (fun wc hWc K hK => ?_)
          subst hWc
          have hC := ih2.out A1 F1 wc hB1.out.at_ hLd1.out (Nat.le_trans hB hsz1.out) (by have := hA1.out; omega)
          go_simp
          refine hC.mono ?_
          clear hC
          rintro e wg ⟨A2, F2, x2, rfl, hR2, hz2, hx2⟩
          have hbb2 := Box.mk (hbb1.out.rn hR2 hF1.out)
          refine hK _ _ (fun w' => w' = wg) (st_eqD fun w' e => e ▸ hbb2.out.cells) rfl ?_
          have hB2 := Box.mk (hB1.out.next hR2)
          have hR3 := Box.mk (hR1b.out.trans hR2)
          have hpre := Box.mk hR2.pre
          have hsz2 := Box.mk (Nat.le_trans hsz1.out hR2.chg.size)
          replace hx2 := Box.mk hx2
          replace hz2 := Box.mk hz2
          clear hK K hR2 hR1b hB1 hLd1 hbb1 ih2 hF1 hsz1
          refine anyS_forced 7 (by kernel_rfl) rfl rfl (fun wh hWh K hK => ?_)
          subst hWh
          obtain ⟨a1, c1, rfl⟩ := hB2.out.row.shape
          have hz := Box.mk (parts_new wh [x2] 9)
          have hB3 := Box.mk (hB2.out.here (bel_alloc wh (.cells #[.string x2] 9)))
          have hR4 := Box.mk (hR3.out.trans (RN.still hB2.out.at_ (bel_alloc wh (.cells #[.string x2] 9))))
          have hbb3 := Box.mk (hbb2.out.on (bel_alloc wh (.cells #[.string x2] 9)))
          go_simp
          refine hK _ _ (fun w' => w' = wh.alloc (.cells #[.string x2] 9)) (st_eqD fun w' e => e ▸ hbb3.out.cells) rfl ?_
          clear hK K hB2 hbb2 hR3
          refine anyS_forced 8 (by kernel_rfl) rfl rfl (fun wi hWi K hK => ?_)
          subst hWi
          refine wp_pushT (.tmp 25) (.tmp 29) rfl w.heap.size _ P1 [x2] rfl hB3.out.row (Nat.le_trans hsz2.out (by simp)) (some ⟨wh.heap.size, 0, none⟩) 1 1 rfl rfl hz.out (by have := hp1.out; omega) ?_
          intro v' w5 hp5
          have hB5 := Box.mk (hB3.out.push hp5 hz2.out)
          have hbb5 := Box.mk (hbb3.out.chg hp5.chg hv1.out)
          have hR5 : Box (RN S n g A0 A F w (2 * s) A2 F2 w5) := ⟨hB5.out.at_, hR4.out.chg.trans hp5.chg fun i hi e => absurd (hB3.out.row.own i e).1 (by omega), fun q hq => (hR4.out.foot q hq), hR4.out.pre, by have := hR4.out.len; have := hA1.out; omega⟩
          refine hK _ _ (fun w' => w' = w5) (st_eqD fun w' e => e ▸ hbb5.out.cells) rfl ?_
          clear hK K hp5 hz hB3 hbb3 hR4
          refine anyS_calms [9] 0 rfl (fun _ => rfl) (st_eqD fun w' e => e ▸ hbb5.out.cells) (by kernel_rfl) (by kernel_rfl) (by kernel_rfl) ?_
          simp [nth]
          try simp only [Act.put, List.setIfInBounds_toArray, List.set_cons_succ, List.set_cons_zero]
          repeat (go_big_quiet_step (first | exact fun _ => rfl | rfl))
          refine wpQuiet_nil ?_
          refine anyS_done (by kernel_rfl) (fun wj hj => ?_)
          subst hj
          go_wp2_with fail
          go_ret
          refine ⟨A2, F2, _, P1 ++ [x2], rfl, hR5.out, hB5.out, by have := hp1.out; simp; omega, fun he G hT => ?_⟩
          have e1 := errA_pre hB5.out.at_ hpre.out he
          rw [hG.out G, ← hx1.out e1 G (hT.pre hpre.out), ← hx2.out he G hT]
      · have hU1 : Und pf ps (f + cutN s) (s - cutN s) := by
          cases hU with
          | here => exact absurd ⟨rfl, rfl⟩ hpq
          | left _ _ h _ => omega
          | right _ _ _ h => exact h
        have hG := Box.mk (fun (G : Nat → Nat → ByteArray) => besG_right (G := G) h2 hpq (by omega))
        have ih1 := fun A F w' ha hl' hb' hl2 => ih (s - cutN s) (by omega) (f + cutN s) A F w' hU1 ha hl' hb' hP2 hl2
        have ih2 := fun A F w' ha hl' hb' hl2 => kroot_any S n g A0 hn (cutN s) f A F w' ha hl' hb' hP1 hl2
        clear ih hU h hL hP hP1 hP2 hU1 hpq hb0
        unfold hvV pv at hHv
        unfold pv RootIs at ih2
        unfold pv BesIs at ih1
        obtain ⟨k, hk⟩ : ∃ k, cutN s = k := ⟨_, rfl⟩
        rw [hk] at hHv hG ih1 ih2 hclt hcpos hlr
        rw [show ((f + k : Nat) : Int) = (f : Int) + (k : Int) by omega] at hHv ih1
        have hlri : ¬ (pf : Int) < (f : Int) + (k : Int) := by omega
        obtain ⟨j0, j1⟩ := And.intro (k4.cell 0) (k4.cell 1)
        simp only [List.getElem?_cons_zero, List.getElem?_cons_succ] at j0 j1
        replace ih1 := Box.mk ih1
        replace ih2 := Box.mk ih2
        replace hHv := Box.mk hHv
        replace hst := Box.mk hst
        replace hLd0 := Box.mk hLd0
        replace hW0 := Box.mk hW0
        replace k4 := Box.mk k4
        clear hk j0 j1
        unfold pv
        go_enter Tryd.func49, Tryd.ntmps49
        rcases hne with hne | ⟨hne0, hne⟩
        · go_wp2_with fail
          rw [hW0.out]
          refine hHv.out.mono ?_
          rintro e w2 ⟨rfl, hb2⟩
          have k42 := Box.mk ((hb2.block _ (Pk.Blk.lt k4.out)).trans k4.out)
          have hst2 := Box.mk (hst.out.trans (RN.still hst.out.at_ hb2))
          have hLd2 := Box.mk (hLd0.out.here hb2 (Nat.le_trans hB (hst.out.chg.size)))
          have hsz2 := Box.mk (And.intro (Pk.Blk.lt k42.out) hst2.out.chg.size)
          clear hb2 hHv hst hLd0 k4
          have j0 := Pk.Blk.cell k42.out 0
          have j1 := Pk.Blk.cell k42.out 1
          simp only [List.getElem?_cons_zero, List.getElem?_cons_succ] at j0 j1
          have hlt4 : w.heap.size < w2.heap.size := hsz2.out.1
          go_wp2_with fail
          clear j0 j1
          obtain ⟨wd, hwd⟩ : ∃ wd, ((w2.alloc (.cells #[.int .i64 (f : Int), .int .i64 (k : Int)] 96)).alloc (.cells #[.int .i64 ((f : Int) + (k : Int)), .int .i64 ((s - k : Nat) : Int)] 96)).drew = wd := ⟨_, rfl⟩
          have hbd : Below w2.heap.size w2 wd := by rw [← hwd]; exact (mono_bel (bel_alloc _ _) (bel_alloc _ _) (Nat.le_refl _)).drew
          have hbb : PB4 w.heap.size (w2.heap.size) pf ps f k (s - k) wd := by
            refine ⟨(hbd.block _ (Pk.Blk.lt k42.out)).trans k42.out, ?_⟩
            rw [← hwd]
            refine ⟨(Below.heap_alloc _ _ _ (by simp)).trans (Pk.Blk.new w2 _ _), ?_⟩
            have := Pk.Blk.new (w2.alloc (.cells #[.int .i64 (f : Int), .int .i64 (k : Int)] 96)) [.int .i64 ((f : Int) + (k : Int)), .int .i64 ((s - k : Nat) : Int)] 96
            rw [show (w2.alloc (.cells #[.int .i64 (f : Int), .int .i64 (k : Int)] 96)).heap.size = w2.heap.size + 1 by simp] at this
            exact this
          have hst3 := Box.mk (hst2.out.trans (RN.still hst2.out.at_ hbd))
          have hd := Box.mk hst3.out.at_
          have hLd := Box.mk (hLd2.out.here hbd (Nat.le_trans hB hst2.out.chg.size))
          have hsz := Box.mk hst3.out.chg.size
          have hNF : Box (∀ q, F q → q ≠ w.heap.size ∧ q ≠ w2.heap.size ∧ q ≠ w2.heap.size + 1) := ⟨fun q hq => by have := (hFw.out q hq).2; omega⟩
          replace hbb := Box.mk hbb
          clear hbd hst2 hLd2 k42 hFw
          refine region_steadyD (PB4c w.heap.size w2.heap.size pf ps f k (s - k)) (fun w' => w' = wd) (fun w w' => w = w') rfl hwd ?_
          refine anyS_calms [0, 1, 2, 4, 5] 5 rfl (fun _ => rfl) (st_eqD fun w' e => e ▸ hbb.out.cells) (by kernel_rfl) (by kernel_rfl) (by kernel_rfl) ?_
          simp [nth]
          try simp only [Act.put, List.setIfInBounds_toArray, List.set_cons_succ, List.set_cons_zero]
          repeat (go_big_quiet_step (first | exact fun _ => rfl | rfl))
          refine quiet_val rfl (.agg #[.int .i64 (pf : Int), .int .i64 (ps : Int)]) (fun w' hw' => by obtain ⟨h3, h4, _⟩ := hw'; go_simp) ?_
          simp only [Act.put, List.setIfInBounds_toArray, List.set_cons_succ, List.set_cons_zero]
          repeat (go_big_quiet_step (first | exact fun _ => rfl | rfl))
          refine quiet_val rfl (.agg #[.int .i64 ((f : Int) + (k : Int)), .int .i64 ((s - k : Nat) : Int)]) (fun w' hw' => by obtain ⟨_, _, h3, h4, h5, h6⟩ := hw'; go_simp) ?_
          simp only [Act.put, List.setIfInBounds_toArray, List.set_cons_succ, List.set_cons_zero]
          repeat (go_big_quiet_step (first | exact fun _ => rfl | rfl))
          refine quiet_val rfl (.agg #[.int .i64 (f : Int), .int .i64 (k : Int)]) (fun w' hw' => by obtain ⟨_, _, h3, h4, h5, h6⟩ := hw'; go_simp) ?_
          simp only [Act.put, List.setIfInBounds_toArray, List.set_cons_succ, List.set_cons_zero]
          repeat (go_big_quiet_step (first | exact fun _ => rfl | rfl))
          refine wpQuiet_nil ?_
          refine anyS_forced 3 (by kernel_rfl) rfl rfl (fun wa hWa K hK => ?_)
          subst hWa
          have hC := ih1.out A F wa hd.out hLd.out (Nat.le_trans hB hsz.out) (by omega)
          go_simp
          refine hC.mono ?_
          clear hC
          rintro e wb ⟨A1, F1, v1, P1, rfl, hR1, hB1, hp1, hx1⟩
          have hbb1 : PB4 w.heap.size w2.heap.size pf ps f k (s - k) wb := hbb.out.rn hR1 hNF.out
          refine hK _ _ (fun w' => w' = wb) (st_eqD fun w' e => e ▸ hbb1.cells) rfl ?_
          have hF1 : Box (∀ q, F1 q → q ≠ w.heap.size ∧ q ≠ w2.heap.size ∧ q ≠ w2.heap.size + 1) := ⟨fun q hq => by
            rcases hR1.foot q hq with h1 | h1
            · exact hNF.out q h1
            · have := hbb.out.1.lt; have := hbb.out.2.1.lt; have := hbb.out.2.2.lt; omega⟩
          have hA1 := Box.mk hR1.len
          have hLd1 := Box.mk (hLd.out.below (hR1.below hd.out (Nat.le_trans hB hsz.out)))
          have hsz1 := Box.mk (Nat.le_trans hsz.out hR1.chg.size)
          have hR1b := Box.mk (hst3.out.trans hR1)
          have hv1 : Box (∀ q, v1.ownBlock = some q → q ≠ w.heap.size ∧ q ≠ w2.heap.size ∧ q ≠ w2.heap.size + 1) := ⟨fun q hq => by
            have := (hB1.row.own q hq).1; have := hbb.out.1.lt; have := hbb.out.2.1.lt; have := hbb.out.2.2.lt; omega⟩
          replace hB1 := Box.mk ({ hB1 with row := hB1.row.base hsz.out, bB := hBq.out } : RowB S n g A0 w.heap.size v1 P1 A1 F1 wb)
          replace hbb1 := Box.mk hbb1
          replace hx1 := Box.mk hx1
          replace hp1 := Box.mk hp1
          clear hK K hR1 hbb hst3 hd hLd ih1 hNF
          refine anyS_forced 6 (by kernel_rfl) rfl rfl (fun wc hWc K hK => ?_)
          subst hWc
          have hC := ih2.out A1 F1 wc hB1.out.at_ hLd1.out (Nat.le_trans hB hsz1.out) (by have := hA1.out; omega)
          go_simp
          refine hC.mono ?_
          clear hC
          rintro e wg ⟨A2, F2, x2, rfl, hR2, hz2, hx2⟩
          have hbb2 := Box.mk (hbb1.out.rn hR2 hF1.out)
          refine hK _ _ (fun w' => w' = wg) (st_eqD fun w' e => e ▸ hbb2.out.cells) rfl ?_
          have hB2 := Box.mk (hB1.out.next hR2)
          have hR3 := Box.mk (hR1b.out.trans hR2)
          have hpre := Box.mk hR2.pre
          have hsz2 := Box.mk (Nat.le_trans hsz1.out hR2.chg.size)
          replace hx2 := Box.mk hx2
          replace hz2 := Box.mk hz2
          clear hK K hR2 hR1b hB1 hLd1 hbb1 ih2 hF1 hsz1
          refine anyS_forced 7 (by kernel_rfl) rfl rfl (fun wh hWh K hK => ?_)
          subst hWh
          obtain ⟨a1, c1, rfl⟩ := hB2.out.row.shape
          have hz := Box.mk (parts_new wh [x2] 9)
          have hB3 := Box.mk (hB2.out.here (bel_alloc wh (.cells #[.string x2] 9)))
          have hR4 := Box.mk (hR3.out.trans (RN.still hB2.out.at_ (bel_alloc wh (.cells #[.string x2] 9))))
          have hbb3 := Box.mk (hbb2.out.on (bel_alloc wh (.cells #[.string x2] 9)))
          go_simp
          refine hK _ _ (fun w' => w' = wh.alloc (.cells #[.string x2] 9)) (st_eqD fun w' e => e ▸ hbb3.out.cells) rfl ?_
          clear hK K hB2 hbb2 hR3
          refine anyS_forced 8 (by kernel_rfl) rfl rfl (fun wi hWi K hK => ?_)
          subst hWi
          refine wp_pushT (.tmp 34) (.tmp 38) rfl w.heap.size _ P1 [x2] rfl hB3.out.row (Nat.le_trans hsz2.out (by simp)) (some ⟨wh.heap.size, 0, none⟩) 1 1 rfl rfl hz.out (by have := hp1.out; omega) ?_
          intro v' w5 hp5
          have hB5 := Box.mk (hB3.out.push hp5 hz2.out)
          have hbb5 := Box.mk (hbb3.out.chg hp5.chg hv1.out)
          have hR5 : Box (RN S n g A0 A F w (2 * s) A2 F2 w5) := ⟨hB5.out.at_, hR4.out.chg.trans hp5.chg fun i hi e => absurd (hB3.out.row.own i e).1 (by omega), fun q hq => (hR4.out.foot q hq), hR4.out.pre, by have := hR4.out.len; have := hA1.out; omega⟩
          refine hK _ _ (fun w' => w' = w5) (st_eqD fun w' e => e ▸ hbb5.out.cells) rfl ?_
          clear hK K hp5 hz hB3 hbb3 hR4
          refine anyS_calms [9] 0 rfl (fun _ => rfl) (st_eqD fun w' e => e ▸ hbb5.out.cells) (by kernel_rfl) (by kernel_rfl) (by kernel_rfl) ?_
          simp [nth]
          try simp only [Act.put, List.setIfInBounds_toArray, List.set_cons_succ, List.set_cons_zero]
          repeat (go_big_quiet_step (first | exact fun _ => rfl | rfl))
          refine wpQuiet_nil ?_
          refine anyS_done (by kernel_rfl) (fun wj hj => ?_)
          subst hj
          go_wp2_with fail
          go_ret
          refine ⟨A2, F2, _, P1 ++ [x2], rfl, hR5.out, hB5.out, by have := hp1.out; simp; omega, fun he G hT => ?_⟩
          have e1 := errA_pre hB5.out.at_ hpre.out he
          rw [hG.out G, ← hx1.out e1 G (hT.pre hpre.out), ← hx2.out he G hT]
        · exfalso; omega
end Go.Proofs.YtlkopllpadhnlaaDoor

namespace Go.Proofs.YtlkopllpadhnlaaDoor
open Go Go.RowKit

/-- What a call leaves of a source. -/
structure SN {B : Nat} (S : Src B) (n : Nat) (A0 : List Tl) (Fs : Nat → Prop) (w : World) (A : List Tl) (Fs' : Nat → Prop) (w' : World) : Prop where
  src : S.I w' Fs' (A0 ++ A)
  chg : Pk.Chg Fs w w'
  foot : ∀ k, Fs' k → Fs k ∨ w.heap.size ≤ k
  tiles : ∀ t ∈ A, TlN n t
  good : errA S A = 0 → ∀ t ∈ A, (S.ans t).2 = 0
  len : A.length ≤ 4 * n
theorem SN.none {B : Nat} {S : Src B} {n : Nat} {A0 : List Tl} {Fs : Nat → Prop} {w w' : World} (h : S.I w Fs A0) (hb : Below w.heap.size w w') : SN S n A0 Fs w [] Fs w' :=
  ⟨by rw [List.append_nil]; exact S.chg h (Pk.Chg.of_below hb) (fun k hk => by have := (S.lt h k hk).2; omega) (fun k hk => Nat.le_trans (S.sz h) hk), (Pk.Chg.of_below hb).mono fun i hi e => absurd hi (by omega), fun k hk => .inl hk, fun t ht => (by cases ht), fun _ t ht => (by cases ht), Nat.zero_le _⟩
theorem SN.here {B : Nat} {S : Src B} {n : Nat} {A0 A : List Tl} {Fs Fs' : Nat → Prop} {w w' w2 : World} (h : SN S n A0 Fs w A Fs' w') (hb : Below w'.heap.size w' w2) : SN S n A0 Fs w A Fs' w2 :=
  ⟨S.chg h.src (Pk.Chg.of_below hb) (fun k hk => by have := (S.lt h.src k hk).2; omega) (fun k hk => Nat.le_trans (S.sz h.src) hk), h.chg.trans (Pk.Chg.of_below hb) fun i hi e => by have := h.chg.size; omega, h.foot, h.tiles, h.good, h.len⟩
/-- A reader that is made. -/
theorem rd_new {B : Nat} {S : Src B} {n : Nat} {A0 : List Tl} {Fs : Nat → Prop} {w : World} (h : S.I w Fs A0) (hB : B ≤ w.heap.size) (hl : A0.length ≤ 80000) :
    RdAt S n w.heap.size A0 [] (RF w.heap.size (.slice none 0 0) Fs) (w.alloc (.cells #[S.sv, .int .i64 (n : Int), .slice none 0 0, .int .i64 0] 93)) :=
  ⟨⟨_, Fs, ⟨Pk.Blk.new w [S.sv, .int .i64 (n : Int), .slice none 0 0, .int .i64 0] _, Pk.Row.nil _ _ _, by
      rw [List.append_nil]; exact S.chg h (Pk.Chg.of_below (bel_alloc w _)) (fun k hk => by have := (S.lt h k hk).2; omega) (fun k hk => Nat.le_trans (S.sz h) hk), fun e => by have := (S.lt h _ e).2; omega, fun k hk => (by cases hk), hB, fun k hk => (by cases hk)⟩, fun k => Iff.rfl⟩, fun t ht => (by cases ht), fun A1 t e => (by cases A1 <;> cases e), (by simp; omega)⟩
theorem RN.sn {B : Nat} {S : Src B} {n : Nat} {A0 A' : List Tl} {Fs F' : Nat → Prop} {w w' : World} {d : Nat} (h : RN S n w.heap.size A0 [] (RF w.heap.size (.slice none 0 0) Fs) (w.alloc (.cells #[S.sv, .int .i64 (n : Int), .slice none 0 0, .int .i64 0] 93)) d A' F' w') (hd : d ≤ 4 * n) :
    ∃ Fs', SN S n A0 Fs w A' Fs' w' ∧ (∀ k, Fs' k → F' k) ∧ ∃ v, w'.cell? ⟨w.heap.size, 3, none⟩ = some (.int .i64 (errA S A')) ∧ F' w.heap.size ∧ v = 0 := by
  obtain ⟨v, Fs', hG, hF⟩ := h.at_.ex
  have c3 := hG.blk.cell 3
  refine ⟨Fs', ⟨hG.src, ?_, fun k hk => ?_, h.at_.tiles, h.at_.good, by have := h.len; simp at this; omega⟩, fun k hk => (hF k).2 (.inr (.inr hk)), 0, c3, (hF _).2 (.inl rfl), rfl⟩
  · exact ((Pk.Chg.of_below (bel_alloc w _)).mono fun i hi e => absurd hi (by omega)).trans h.chg fun i hi e => by
      rcases e with e | e | e
      · omega
      · cases e
      · exact e
  · rcases h.foot k ((hF k).2 (.inr (.inr hk))) with h1 | h1
    · rcases h1 with e | e | e
      · exact .inr (by omega)
      · cases e
      · exact .inl e
    · exact .inr (by simp at h1; omega)
set_option maxHeartbeats 1600000 in
set_option maxRecDepth 100000 in
theorem readable_any (tp : TypeId) (pp : Value) (n : Int) (w : World) :
    Calls Tryd.prog 46 #[.iface tp pp, .int .i64 n] w fun e w' => e = .returned (.bool (decide (0 ≤ n) && decide (n ≤ 1024))) ∧ w = w' := by
  go_enter Tryd.func46, Tryd.ntmps46
  go_wp2_with fail
  all_goals (go_ret; refine ⟨?_, rfl⟩; simp [*] <;> omega)
theorem readable_nil (n : Int) (w : World) :
    Calls Tryd.prog 46 #[.nilIface, .int .i64 n] w fun e w' => e = .returned (.bool false) ∧ w = w' := by
  go_enter Tryd.func46, Tryd.ntmps46
  go_wp2_with fail
  all_goals (go_ret; exact ⟨rfl, rfl⟩)
/-- What Root answers. -/
def RootT {B : Nat} (S : Src B) (n : Nat) (A0 : List Tl) (Fs : Nat → Prop) (w : World) (e : Ending) (w' : World) : Prop :=
  ∃ A Fs' r, e = .returned (.tuple #[.string r, .int .i64 (errA S A)]) ∧ SN S n A0 Fs w A Fs' w' ∧ (errA S A ≠ 0 → r = ByteArray.empty) ∧ (errA S A = 0 → ∀ G, Tells S A G → r = rootG G 0 n)
set_option maxHeartbeats 3200000 in
set_option maxRecDepth 100000 in
theorem troot_any {B : Nat} (S : Src B) (n : Nat) (A0 : List Tl) (Fs : Nat → Prop) (w : World) (h : S.I w Fs A0) (hL : Ld B w) (hB : B ≤ w.heap.size) (hn1 : 1 ≤ n) (hn : n ≤ 1024) (hl : A0.length ≤ 70000) :
    Calls Tryd.prog 20 #[S.sv, .int .i64 (n : Int)] w (RootT S n A0 Fs w) := by
  obtain ⟨tp, pp, hsv⟩ := S.iface
  have hRd := readable_any tp pp n w
  rw [← hsv] at hRd
  have hd : (decide (0 ≤ (n : Int)) && decide ((n : Int) ≤ 1024)) = true := by simp; omega
  rw [hd] at hRd
  have hat := rd_new (n := n) h hB (by omega)
  have hba := bel_alloc w (.cells #[S.sv, .int .i64 (n : Int), .slice none 0 0, .int .i64 0] 93)
  have hK := kroot_any S n w.heap.size A0 hn n 0 [] _ _ hat (hL.here hba hB) (Nat.le_trans hB hba.size) (Part.all hn1) (by simp; omega)
  obtain ⟨W0, hW0⟩ : ∃ W0, w.alloc (.cells #[S.sv, .int .i64 (n : Int), .slice none 0 0, .int .i64 0] 93) = W0 := ⟨_, rfl⟩
  have hsn := Box.mk (fun A' F' w' d => RN.sn (S := S) (n := n) (A0 := A0) (A' := A') (Fs := Fs) (F' := F') (w := w) (w' := w') (d := d))
  rw [hW0] at hK hsn
  unfold pv RootIs at hK
  unfold RootT
  have hn0 : ¬ (n : Int) = 0 := by omega
  have hnb : ((n : Int) == 0) = false := by simp; omega
  rw [hsv] at hW0 hRd ⊢
  replace hW0 := Box.mk hW0
  clear h hL hat hba hd hsv
  go_enter Tryd.func20, Tryd.ntmps20
  go_wp2_with fail
  refine hRd.mono ?_
  clear hRd
  rintro e w1 ⟨rfl, hw1⟩
  subst hw1
  go_wp2_with fail
  rw [hW0.out]
  refine hK.mono ?_
  clear hK
  rintro e w2 ⟨A', F', x, rfl, hR, hsz, hx⟩
  obtain ⟨Fs', hS, _, _, c3, _⟩ := hsn.out A' F' w2 _ hR (by omega)
  replace hS := Box.mk hS
  replace hx := Box.mk hx
  clear hsn hR hW0
  by_cases he : errA S A' = 0
  · rw [he] at c3
    replace he := Box.mk he
    go_wp2_with fail
    go_returns
    exact ⟨A', Fs', x, by rw [he.out]; rfl, hS.out, fun h => absurd he.out h, fun h => hx.out h⟩
  · have hE := Box.mk (rfl : errA S A' = errA S A')
    obtain ⟨E, hEe⟩ : ∃ E, errA S A' = E := ⟨_, rfl⟩
    rw [hEe] at c3 he
    have heb : (E != 0) = true := by simpa using he
    replace hEe := Box.mk hEe
    replace he := Box.mk he
    have hlt3 : w.heap.size < w2.heap.size := block_lt_of_cell c3
    have c3B := Box.mk (fun w' (hb : Below w2.heap.size w2 w') => (hb.cell (p := ⟨w.heap.size, 3, none⟩) hlt3).trans c3)
    go_wp2_with fail
    refine region_quiet (fun w' => Below w2.heap.size w2 w') (by kernel_rfl) (by kernel_rfl) (dB _) ?_
    repeat (go_big_quiet_step (first | exact fun _ => rfl | rfl))
    refine quiet_val rfl (.int .i64 E) (fun w' hw' => by have h3 := c3B.out w' hw'; go_simp) ?_
    simp only [Act.put, List.setIfInBounds_toArray, List.set_cons_succ, List.set_cons_zero]
    repeat (go_big_quiet_step (first | exact fun _ => rfl | rfl))
    refine wpQuiet_nil ?_
    intro w3 hb3
    replace hS := Box.mk (hS.out.here hb3)
    clear hb3 c3B
    go_wp2_with fail
    go_returns
    exact ⟨A', Fs', _, by rw [hEe.out]; rfl, hS.out, fun _ => rfl, fun h => absurd (hEe.out.symm.trans h) he.out⟩
set_option maxHeartbeats 1600000 in
set_option maxRecDepth 100000 in
theorem tend_any (g : Nat) (E : Int) (a : Option Addr) (m c : Nat) (w : World) (c3 : w.cell? ⟨g, 3, none⟩ = some (.int .i64 E)) :
    Calls Tryd.prog 48 #[.pointer (some ⟨g, 0, none⟩), .slice a m c] w fun e w' => (E = 0 → e = .returned (.tuple #[.slice a m c, .int .i64 0])) ∧ (E ≠ 0 → e = .returned (.tuple #[.slice none 0 0, .int .i64 E])) ∧ Below w.heap.size w w' := by
  have hlt3 : g < w.heap.size := block_lt_of_cell c3
  by_cases he : E = 0
  · subst he
    go_enter Tryd.func48, Tryd.ntmps48
    go_wp2_with fail
    go_returns
    exact ⟨fun _ => rfl, fun h => absurd rfl h, Below.refl _ _⟩
  · have heb : (E != 0) = true := by simpa using he
    have c3B := Box.mk (fun w' (hb : Below w.heap.size w w') => (hb.cell (p := ⟨g, 3, none⟩) hlt3).trans c3)
    replace he := Box.mk he
    go_enter Tryd.func48, Tryd.ntmps48
    go_wp2_with fail
    refine region_quiet (fun w' => Below w.heap.size w w') (by kernel_rfl) (by kernel_rfl) (dB _) ?_
    repeat (go_big_quiet_step (first | exact fun _ => rfl | rfl))
    refine quiet_val rfl (.int .i64 E) (fun w' hw' => by have h3 := c3B.out w' hw'; go_simp) ?_
    simp only [Act.put, List.setIfInBounds_toArray, List.set_cons_succ, List.set_cons_zero]
    repeat (go_big_quiet_step (first | exact fun _ => rfl | rfl))
    refine wpQuiet_nil ?_
    intro w3 hb3
    replace hb3 := Box.mk hb3
    clear c3B
    go_wp2_with fail
    go_returns
    exact ⟨fun h => absurd h he.out, fun _ => rfl, hb3.out⟩
/-- Root of no leaves; Root of what can't be read. -/
theorem troot_zero {B : Nat} (S : Src B) (w : World) (hK : KIs w) :
    Calls Tryd.prog 20 #[S.sv, .int .i64 0] w fun e w' => e = .returned (.tuple #[.string noneH, .int .i64 0]) ∧ Below w.heap.size w w' := by
  obtain ⟨tp, pp, hsv⟩ := S.iface
  rw [hsv]
  have hRd := readable_any tp pp 0 w
  have hR := root_any 0 [] none 0 w (pa_none _ _) hK (fun x hx => by cases hx)
  rw [rootL_nil] at hR
  go_enter Tryd.func20, Tryd.ntmps20
  go_wp2_with fail
  refine hRd.mono ?_
  rintro e w1 ⟨rfl, hw1⟩
  subst hw1
  go_wp2_with fail
  refine hR.mono ?_
  rintro e w2 ⟨rfl, hb⟩
  clear hR hRd
  replace hb := Box.mk hb
  go_wp2_with fail
  go_returns
  exact ⟨rfl, hb.out⟩
theorem troot_bad {B : Nat} (S : Src B) (n : Int) (w : World) (hn : n < 0 ∨ 1024 < n) :
    Calls Tryd.prog 20 #[S.sv, .int .i64 n] w fun e w' => e = .returned (.tuple #[.string ByteArray.empty, .int .i64 1]) ∧ w = w' := by
  obtain ⟨tp, pp, hsv⟩ := S.iface
  rw [hsv]
  have hRd := readable_any tp pp n w
  rw [show (decide (0 ≤ n) && decide (n ≤ 1024)) = false by simp; omega] at hRd
  go_enter Tryd.func20, Tryd.ntmps20
  go_wp2_with fail
  refine hRd.mono ?_
  rintro e w1 ⟨rfl, hw1⟩
  subst hw1
  go_wp2_with fail
  go_returns
  exact ⟨rfl, rfl⟩
theorem troot_nil (n : Int) (w : World) :
    Calls Tryd.prog 20 #[.nilIface, .int .i64 n] w fun e w' => e = .returned (.tuple #[.string ByteArray.empty, .int .i64 1]) ∧ w = w' := by
  have hRd := readable_nil n w
  go_enter Tryd.func20, Tryd.ntmps20
  go_wp2_with fail
  refine hRd.mono ?_
  rintro e w1 ⟨rfl, hw1⟩
  subst hw1
  go_wp2_with fail
  go_returns
  exact ⟨rfl, rfl⟩
theorem tinc_nil (n i : Int) (w : World) :
    Calls Tryd.prog 21 #[.nilIface, .int .i64 n, .int .i64 i] w fun e w' => e = .returned (.tuple #[.slice none 0 0, .int .i64 1]) ∧ w = w' := by
  have hRd := readable_nil n w
  go_enter Tryd.func21, Tryd.ntmps21
  go_wp2_with fail
  refine hRd.mono ?_
  rintro e w1 ⟨rfl, hw1⟩
  subst hw1
  go_wp2_with fail
  go_returns
  exact ⟨rfl, rfl⟩
theorem tcon_nil (n i : Int) (w : World) :
    Calls Tryd.prog 23 #[.nilIface, .int .i64 n, .int .i64 i] w fun e w' => e = .returned (.tuple #[.slice none 0 0, .int .i64 1]) ∧ w = w' := by
  have hRd := readable_nil n w
  go_enter Tryd.func23, Tryd.ntmps23
  go_wp2_with fail
  refine hRd.mono ?_
  rintro e w1 ⟨rfl, hw1⟩
  subst hw1
  go_wp2_with fail
  go_returns
  exact ⟨rfl, rfl⟩
end Go.Proofs.YtlkopllpadhnlaaDoor

namespace Go.Proofs.YtlkopllpadhnlaaDoor
open Go Go.RowKit

theorem und_leaf (i : Nat) : ∀ (s f : Nat), f ≤ i → i < f + s → Und i 1 f s := by
  intro s
  induction s using Nat.strongRecOn with
  | ind s ih =>
    intro f h1 h2
    by_cases hs : 2 ≤ s
    · have hlt := cutN_lt hs
      have hpos := cutN_pos s
      by_cases h : i < f + cutN s
      · exact .left hs (by omega) h (ih _ hlt f h1 h)
      · exact .right hs (by omega) (by omega) (ih _ (by omega) _ (by omega) (by omega))
    · obtain rfl : s = 1 := by omega
      obtain rfl : i = f := by omega
      exact .here
/-- What Inclusion and Consistency answer. -/
def ProofT {B : Nat} (S : Src B) (n : Nat) (A0 : List Tl) (Fs : Nat → Prop) (w : World) (X : (Nat → Nat → ByteArray) → List ByteArray) (e : Ending) (w' : World) : Prop :=
  ∃ A Fs' v P, e = .returned (.tuple #[v, .int .i64 (errA S A)]) ∧ SN S n A0 Fs w A Fs' w' ∧ TxR w.heap.size w' v P ∧ (∀ k, v.ownBlock = some k → ¬ Fs' k) ∧ (errA S A ≠ 0 → P = []) ∧ (errA S A = 0 → ∀ G, Tells S A G → P = X G) ∧ ∀ x ∈ P, x.size ≤ 32
set_option maxHeartbeats 3200000 in
set_option maxRecDepth 100000 in
theorem tinc_any {B : Nat} (S : Src B) (n i : Nat) (A0 : List Tl) (Fs : Nat → Prop) (w : World) (h : S.I w Fs A0) (hL : Ld B w) (hB : B ≤ w.heap.size) (hi : i < n) (hn : n ≤ 1024) (hl : A0.length ≤ 70000) :
    Calls Tryd.prog 21 #[S.sv, .int .i64 (n : Int), .int .i64 (i : Int)] w (ProofT S n A0 Fs w fun G => besG G i 1 0 n) := by
  obtain ⟨tp, pp, hsv⟩ := S.iface
  have hRd := readable_any tp pp n w
  have hd : (decide (0 ≤ (n : Int)) && decide ((n : Int) ≤ 1024)) = true := by simp; omega
  rw [hd] at hRd
  have hat := rd_new (n := n) h hB (by omega)
  have hba := bel_alloc w (.cells #[S.sv, .int .i64 (n : Int), .slice none 0 0, .int .i64 0] 93)
  have hK := beside_any S n w.heap.size A0 hn i 1 n 0 [] _ _ (und_leaf i n 0 (Nat.zero_le _) (by omega)) hat (hL.here hba hB) (Nat.le_trans hB hba.size) (Part.all (by omega)) (by simp; omega)
  obtain ⟨W0, hW0⟩ : ∃ W0, w.alloc (.cells #[S.sv, .int .i64 (n : Int), .slice none 0 0, .int .i64 0] 93) = W0 := ⟨_, rfl⟩
  have hsn := Box.mk (fun A' F' w' d => RN.sn (S := S) (n := n) (A0 := A0) (A' := A') (Fs := Fs) (F' := F') (w := w) (w' := w') (d := d))
  rw [hW0] at hK hsn hba
  unfold pv BesIs at hK
  unfold ProofT
  rw [hsv] at hW0 ⊢
  have q1 : ¬ ((i : Int) < 0) := by omega
  have q2 : ¬ ((n : Int) ≤ (i : Int)) := by omega
  replace hW0 := Box.mk hW0
  replace hba := Box.mk hba
  clear h hL hat hd hsv
  go_enter Tryd.func21, Tryd.ntmps21
  go_wp2_with fail
  refine hRd.mono ?_
  clear hRd
  rintro e w1 ⟨rfl, hw1⟩
  subst hw1
  go_wp2_with fail
  rw [hW0.out]
  refine hK.mono ?_
  clear hK
  rintro e w2 ⟨A', F', v, P, rfl, hR, hRow, hpl, hx⟩
  obtain ⟨Fs', hS, hFF, _, c3, _⟩ := hsn.out A' F' w2 _ hR (by omega)
  obtain ⟨a, c, rfl⟩ := hRow.row.shape
  have hE := tend_any w.heap.size (errA S A') a P.length c w2 c3
  replace hS := Box.mk hS
  replace hx := Box.mk hx
  replace hFF := Box.mk hFF
  replace hRow := Box.mk hRow
  clear hsn hR hW0 c3
  go_wp2_with fail
  refine hE.mono ?_
  clear hE
  rintro e w3 ⟨h1, h2, hb⟩
  by_cases he : errA S A' = 0
  · rw [h1 he]
    replace he := Box.mk he
    replace hb := Box.mk hb
    clear h1 h2
    go_wp2_with fail
    go_returns
    exact ⟨A', Fs', _, P, by rw [he.out]; rfl, hS.out.here hb.out, (hRow.out.row.base hba.out.size).here hb.out, fun k hk hF => hRow.out.vF k hk (hFF.out k hF), fun h => absurd he.out h, fun h => hx.out h, hRow.out.sz⟩
  · rw [h2 he]
    obtain ⟨E, hEe⟩ : ∃ E, errA S A' = E := ⟨_, rfl⟩
    rw [hEe] at he ⊢
    replace hEe := Box.mk hEe
    replace he := Box.mk he
    replace hb := Box.mk hb
    clear h1 h2
    go_wp2_with fail
    go_returns
    exact ⟨A', Fs', _, [], by rw [hEe.out]; rfl, hS.out.here hb.out, TxR.nil _ _, fun k hk => (by cases hk), fun _ => rfl, fun h => absurd (hEe.out.symm.trans h) he.out, fun x hx => (by cases hx)⟩
set_option maxHeartbeats 1600000 in
set_option maxRecDepth 100000 in
theorem tinc_bad {B : Nat} (S : Src B) (n i : Int) (w : World) (hb : n < 0 ∨ 1024 < n ∨ i < 0 ∨ n ≤ i) :
    Calls Tryd.prog 21 #[S.sv, .int .i64 n, .int .i64 i] w fun e w' => e = .returned (.tuple #[.slice none 0 0, .int .i64 1]) ∧ w = w' := by
  obtain ⟨tp, pp, hsv⟩ := S.iface
  rw [hsv]
  have hRd := readable_any tp pp n w
  cases hd : (decide (0 ≤ n) && decide (n ≤ 1024)) with
  | false =>
    rw [hd] at hRd
    clear hb hd
    go_enter Tryd.func21, Tryd.ntmps21
    go_wp2_with fail
    refine hRd.mono ?_
    rintro e w1 ⟨rfl, hw1⟩
    subst hw1
    go_wp2_with fail
    go_returns
    exact ⟨rfl, rfl⟩
  | true =>
    rw [hd] at hRd
    have hd2 : 0 ≤ n ∧ n ≤ 1024 := by simpa using hd
    by_cases h0 : i < 0
    · clear hb hd
      go_enter Tryd.func21, Tryd.ntmps21
      go_wp2_with fail
      refine hRd.mono ?_
      rintro e w1 ⟨rfl, hw1⟩
      subst hw1
      go_wp2_with fail
      go_returns
      exact ⟨rfl, rfl⟩
    · have h1 : n ≤ i := by omega
      clear hb hd
      go_enter Tryd.func21, Tryd.ntmps21
      go_wp2_with fail
      refine hRd.mono ?_
      rintro e w1 ⟨rfl, hw1⟩
      subst hw1
      go_wp2_with fail
      go_returns
      exact ⟨rfl, rfl⟩
end Go.Proofs.YtlkopllpadhnlaaDoor
