/- Bills: Fits, Whole of both. -/
import Derived.Test.YtdnhpldcnmbncaaDoorBlC
namespace Go.Proofs.YtdnhpldcnmbncaaDoor.Bi
open Go Go.RowKit Go.Proofs.YtdnhpldcnmbncaaDoor
set_option linter.all false

theorem region_sC {P : Program} (B C : World → Prop) (R : World → World → Prop) {id : Nat} {Q : Exit → Act → World → Prop} {a : Act} {w : World} {l : List Oper} (hm : P.follows .mixedOrders = true) (hC : C w.drew)
    (h : anyS P .any l.toArray B R (Q .normal) l.length (Array.replicate l.length false) a C) : (Code.region id l.toArray true).wp P Q a w := by
  refine wp_region_any hm ?_
  have h2 := any_of_S (fun _ _ h => h) _ _ _ _ _ hC h
  simpa using h2
theorem stE {B C : World → Prop} (h : ∀ w, C w → B w) : St B (fun w w' => w = w') C := ⟨h, fun _ _ hC e => e ▸ hC⟩
theorem rsumone (s : ByteArray) (w : World) (hs : s.size ≤ 140737488354800) :
    Calls Tryd.prog 33 #[.slice (some ⟨w.heap.size, 0, none⟩) 1 1] (w.alloc (.cells #[.string s] 9)) fun e w' => e = .returned (.string (hashOf s.data.toList)) ∧ Below w.heap.size w w' := by
  have hW := (Below.refl w.heap.size w).alloc (Nat.le_refl _) (.cells #[.string s] 9)
  have hS := rsum_parts (.slice (some ⟨w.heap.size, 0, none⟩) 1 1) [s] (w.alloc (.cells #[.string s] 9)) ⟨some ⟨w.heap.size, 0, none⟩, 1, rfl, fun _ => ⟨w.heap.size, 0, rfl, by simp, fun i hi => by
    obtain rfl : i = 0 := by simpa using hi
    rw [World.cell?_alloc_at _ _ _ _ rfl]; rfl⟩⟩ (by rw [flat_one, data_len]; exact hs) (by simp)
  rw [flat_one] at hS
  exact hS.mono fun e w' h => ⟨h.1, mono_bel hW h.2 (Nat.le_refl _)⟩
/-- What Whole answers. -/
def whoI (v s c : Int) (h t : ByteArray) (l : List ByteArray) (x : ByteArray) : Int := if chkB v s c h t l then (if (x.size : Int) = s then (if hashOf x.data.toList = h then 0 else 10) else 4) else 1
theorem who_bad {v s c : Int} {h t : ByteArray} {l : List ByteArray} {x : ByteArray} (hc : chkB v s c h t l = false) : whoI v s c h t l x = 1 := by unfold whoI; rw [hc]; rfl
theorem who_long {v s c : Int} {h t : ByteArray} {l : List ByteArray} {x : ByteArray} (hc : chkB v s c h t l = true) (hx : ¬ (x.size : Int) = s) : whoI v s c h t l x = 4 := by unfold whoI; rw [hc, if_pos rfl, if_neg hx]
theorem who_hash {v s c : Int} {h t : ByteArray} {l : List ByteArray} {x : ByteArray} (hc : chkB v s c h t l = true) (hx : (x.size : Int) = s) (hh : ¬ hashOf x.data.toList = h) : whoI v s c h t l x = 10 := by unfold whoI; rw [hc, if_pos rfl, if_pos hx, if_neg hh]
theorem who_ok {v s c : Int} {h t : ByteArray} {l : List ByteArray} {x : ByteArray} (hc : chkB v s c h t l = true) (hx : (x.size : Int) = s) (hh : hashOf x.data.toList = h) : whoI v s c h t l x = 0 := by unfold whoI; rw [hc, if_pos rfl, if_pos hx, if_pos hh]
set_option maxHeartbeats 1600000 in
set_option maxRecDepth 100000 in
theorem whole_any (v s c : Int) (h t x : ByteArray) (a : Option Addr) (n k : Nat) (l : List ByteArray) (w : World) (hP : PA w a n k l) (hK : KIs w) (hx : x.size ≤ 140737488354800) :
    Calls Tryd.prog 25 #[.agg #[.int .i64 v, .int .i64 s, .int .i64 c, .string h, .string t, .slice a n k], .string x] w fun e w' => e = .returned (.int .i64 (whoI v s c h t l x)) ∧ Below w.heap.size w w' := by
  have h1 := Box.mk fun w' (hx : Below w.heap.size w w') => check_any v s c h t a n k l w' (hP.here hx) (hK.below hx hK.lt)
  have hKB := Box.mk fun w' (hx : Below w.heap.size w w') => (hK.below hx hK.lt : KIs w')
  have hS := Box.mk fun w' hK' => sum_one x w' hK' (by omega)
  unfold chkI at h1
  have hbad := Box.mk fun hc => who_bad (v := v) (s := s) (c := c) (h := h) (t := t) (l := l) (x := x) hc
  have hlong := Box.mk fun hc hx => who_long (v := v) (s := s) (c := c) (h := h) (t := t) (l := l) (x := x) hc hx
  have hhash := Box.mk fun hc hx hh => who_hash (v := v) (s := s) (c := c) (h := h) (t := t) (l := l) (x := x) hc hx hh
  have hok := Box.mk fun hc hx hh => who_ok (v := v) (s := s) (c := c) (h := h) (t := t) (l := l) (x := x) hc hx hh
  obtain ⟨H, hH⟩ : ∃ H, hashOf x.data.toList = H := ⟨_, rfl⟩
  rw [hH] at hhash hok hS
  obtain ⟨Z, hZ⟩ : ∃ Z, whoI v s c h t l x = Z := ⟨_, rfl⟩
  rw [hZ] at hbad hlong hhash hok ⊢
  obtain ⟨B, hB⟩ : ∃ B, chkB v s c h t l = B := ⟨_, rfl⟩
  rw [hB] at h1 hbad hlong hhash hok
  clear hB hZ hH hP hK
  have hb := bel_alloc w (.cells #[.int .i64 v, .int .i64 s, .int .i64 c, .string h, .string t, .slice a n k] 25)
  have hA := BAt.new w v s c h t (.slice a n k)
  obtain ⟨w1, hw1⟩ : ∃ W, w.alloc (.cells #[.int .i64 v, .int .i64 s, .int .i64 c, .string h, .string t, .slice a n k] 25) = W := ⟨_, rfl⟩
  rw [hw1] at hb hA
  obtain ⟨b, hbe⟩ : ∃ b, w.heap.size = b := ⟨_, rfl⟩
  rw [hbe] at hA
  obtain ⟨q0, q1, q2, q3, q4, q5⟩ := hA.cells
  replace hb := Box.mk hb
  replace hA := Box.mk hA
  have h2 := h1.out w1 hb.out
  clear h1
  go_enter Tryd.func25, Tryd.ntmps25
  cases B
  · replace hbad := Box.mk (hbad.out rfl)
    clear hlong hhash hok
    rw [if_neg (by decide)] at h2
    go_wp2_with fail
    refine h2.mono ?_
    clear h2
    rintro e w2 ⟨rfl, hb2⟩
    replace hA := Box.mk (hA.out.here hb2)
    replace hb := Box.mk (mono_bel hb.out hb2 (Nat.le_refl _))
    clear hb2 q0 q1 q2 q3 q4 q5
    try clear hw1
    obtain ⟨q0, q1, q2, q3, q4, q5⟩ := hA.out.cells
    go_wp2_with fail
    go_ret
    exact ⟨by rw [hbad.out]; rfl, by first | exact hb.out | exact hbe ▸ hb.out⟩
  · rw [if_pos rfl] at h2
    replace hlong := Box.mk (hlong.out rfl)
    replace hhash := Box.mk (hhash.out rfl)
    replace hok := Box.mk (hok.out rfl)
    clear hbad
    go_wp2_with fail
    refine h2.mono ?_
    clear h2
    rintro e w2 ⟨rfl, hb2⟩
    replace hA := Box.mk (hA.out.here hb2)
    replace hb := Box.mk (mono_bel hb.out hb2 (Nat.le_refl _))
    clear hb2 q0 q1 q2 q3 q4 q5
    try clear hw1
    obtain ⟨q0, q1, q2, q3, q4, q5⟩ := hA.out.cells
    by_cases hxs : (x.size : Int) = s
    · have hq : ((x.size : Int) != s) = false := by simpa using hxs
      have qA := Box.mk fun w' (hx : Below w2.heap.size w2 w') => (hA.out.here hx).cells
      clear q0 q2 q3 q4 q5
      go_wp2_with fail
      refine region_sC (fun w' => Below w2.heap.size w2 w') (fun w' => Below w2.heap.size w2 w') (fun w w' => w = w') rfl (dB w2) ?_
      refine anyS_calms [0, 3, 4] 3 rfl (fun _ => rfl) (stE fun _ h => h) (by kernel_rfl) (by kernel_rfl) (by kernel_rfl) ?_
      simp [nth]
      try simp only [Act.put, List.setIfInBounds_toArray, List.set_cons_succ, List.set_cons_zero]
      repeat (go_big_quiet_step (first | exact fun _ => rfl | rfl))
      refine quiet_val rfl (.string h) (fun w' hw' => by obtain ⟨q0, q1, q2, q3, q4, q5⟩ := qA.out w' hw'; go_simp) ?_
      simp only [Act.put, List.setIfInBounds_toArray, List.set_cons_succ, List.set_cons_zero]
      repeat (go_big_quiet_step (first | exact fun _ => rfl | rfl))
      refine wpQuiet_nil ?_
      have hbW := Box.mk fun w' (hx : Below w2.heap.size w2 w') => (mono_bel hb.out hx (Nat.le_refl _) : Below w.heap.size w w')
      replace hhash := Box.mk (hhash.out hxs)
      replace hok := Box.mk (hok.out hxs)
      refine anyS_forced 1 (by kernel_rfl) rfl rfl (fun wa hWa K hK => ?_)
      have hcall := Box.mk (hS.out wa (hKB.out wa (hbW.out wa hWa)))
      have hWa2 := Box.mk (fun w' (hx : Below wa.heap.size wa w') => (mono_bel hWa hx (Nat.le_refl _) : Below w2.heap.size w2 w'))
      go_simp
      refine hK _ _ (fun w' => w' = wa.alloc (.cells #[.string x] 9)) (stE fun w' e => e ▸ hWa2.out _ (bel_alloc _ _)) rfl ?_
      clear hK K
      refine anyS_forced 2 (by kernel_rfl) rfl rfl (fun wc hWc K hK => ?_)
      subst hWc
      have hF := hcall.out
      go_simp
      refine hF.mono ?_
      rintro e wd ⟨rfl, hbd⟩
      have hb8 := Box.mk (hWa2.out wd hbd)
      refine hK _ _ (fun w' => w' = wd) (stE fun w' e => e ▸ hb8.out) rfl ?_
      clear hK K hF hbd hcall hWa hWa2
      have hb9 := Box.mk (hbW.out wd hb8.out)
      by_cases hHh : H = h
      · have heq : (H.toList == h.toList) = true := by rw [eqT, decide_eq_true hHh]
        replace hok := Box.mk (hok.out hHh)
        refine anyS_calms [5] 0 rfl (fun _ => rfl) (stE fun w' e => e ▸ hb8.out) (by kernel_rfl) (by kernel_rfl) (by kernel_rfl) ?_
        simp [nth]
        try simp only [Act.put, List.setIfInBounds_toArray, List.set_cons_succ, List.set_cons_zero]
        repeat (go_big_quiet_step (first | exact fun _ => rfl | rfl))
        refine wpQuiet_nil ?_
        refine anyS_done (by kernel_rfl) ?_
        rintro w9 rfl
        go_wp2_with fail
        go_ret
        exact ⟨by rw [hok.out]; rfl, by first | exact hb9.out | exact hbe ▸ hb9.out⟩
      · have heq : (H.toList == h.toList) = false := by rw [eqT, decide_eq_false hHh]
        replace hhash := Box.mk (hhash.out hHh)
        refine anyS_calms [5] 0 rfl (fun _ => rfl) (stE fun w' e => e ▸ hb8.out) (by kernel_rfl) (by kernel_rfl) (by kernel_rfl) ?_
        simp [nth]
        try simp only [Act.put, List.setIfInBounds_toArray, List.set_cons_succ, List.set_cons_zero]
        repeat (go_big_quiet_step (first | exact fun _ => rfl | rfl))
        refine wpQuiet_nil ?_
        refine anyS_done (by kernel_rfl) ?_
        rintro w9 rfl
        go_wp2_with fail
        go_ret
        exact ⟨by rw [hhash.out]; rfl, by first | exact hb9.out | exact hbe ▸ hb9.out⟩
    · have hq : ((x.size : Int) != s) = true := by simpa using hxs
      replace hlong := Box.mk (hlong.out hxs)
      clear hhash hok
      go_wp2_with fail
      go_ret
      exact ⟨by rw [hlong.out]; rfl, by first | exact hb.out | exact hbe ▸ hb.out⟩
set_option maxHeartbeats 1600000 in
set_option maxRecDepth 100000 in
theorem rwhole_any (v s c : Int) (h t x : ByteArray) (a : Option Addr) (n k : Nat) (l : List ByteArray) (w : World) (hP : PA w a n k l) (hF : Fit l) (hx : x.size ≤ 140737488354800) :
    Calls Tryd.prog 26 #[.agg #[.int .i64 v, .int .i64 s, .int .i64 c, .string h, .string t, .slice a n k], .string x] w fun e w' => e = .returned (.int .i64 (whoI v s c h t l x)) ∧ Below w.heap.size w w' := by
  have h1 := Box.mk fun w' (hx : Below w.heap.size w w') => rcheck_any v s c h t a n k l w' (hP.here hx) hF
  have hS := Box.mk fun w' => rsumone x w' (by omega)
  unfold chkI at h1
  have hbad := Box.mk fun hc => who_bad (v := v) (s := s) (c := c) (h := h) (t := t) (l := l) (x := x) hc
  have hlong := Box.mk fun hc hx => who_long (v := v) (s := s) (c := c) (h := h) (t := t) (l := l) (x := x) hc hx
  have hhash := Box.mk fun hc hx hh => who_hash (v := v) (s := s) (c := c) (h := h) (t := t) (l := l) (x := x) hc hx hh
  have hok := Box.mk fun hc hx hh => who_ok (v := v) (s := s) (c := c) (h := h) (t := t) (l := l) (x := x) hc hx hh
  obtain ⟨H, hH⟩ : ∃ H, hashOf x.data.toList = H := ⟨_, rfl⟩
  rw [hH] at hhash hok hS
  obtain ⟨Z, hZ⟩ : ∃ Z, whoI v s c h t l x = Z := ⟨_, rfl⟩
  rw [hZ] at hbad hlong hhash hok ⊢
  obtain ⟨B, hB⟩ : ∃ B, chkB v s c h t l = B := ⟨_, rfl⟩
  rw [hB] at h1 hbad hlong hhash hok
  clear hB hZ hH hP hF
  have hb := bel_alloc w (.cells #[.int .i64 v, .int .i64 s, .int .i64 c, .string h, .string t, .slice a n k] 25)
  have hA := BAt.new w v s c h t (.slice a n k)
  obtain ⟨w1, hw1⟩ : ∃ W, w.alloc (.cells #[.int .i64 v, .int .i64 s, .int .i64 c, .string h, .string t, .slice a n k] 25) = W := ⟨_, rfl⟩
  rw [hw1] at hb hA
  obtain ⟨b, hbe⟩ : ∃ b, w.heap.size = b := ⟨_, rfl⟩
  rw [hbe] at hA
  obtain ⟨q0, q1, q2, q3, q4, q5⟩ := hA.cells
  replace hb := Box.mk hb
  replace hA := Box.mk hA
  have h2 := h1.out w1 hb.out
  clear h1
  go_enter Tryd.func26, Tryd.ntmps26
  cases B
  · replace hbad := Box.mk (hbad.out rfl)
    clear hlong hhash hok
    rw [if_neg (by decide)] at h2
    go_wp2_with fail
    refine h2.mono ?_
    clear h2
    rintro e w2 ⟨rfl, hb2⟩
    replace hA := Box.mk (hA.out.here hb2)
    replace hb := Box.mk (mono_bel hb.out hb2 (Nat.le_refl _))
    clear hb2 q0 q1 q2 q3 q4 q5
    try clear hw1
    obtain ⟨q0, q1, q2, q3, q4, q5⟩ := hA.out.cells
    go_wp2_with fail
    go_ret
    exact ⟨by rw [hbad.out]; rfl, by first | exact hb.out | exact hbe ▸ hb.out⟩
  · rw [if_pos rfl] at h2
    replace hlong := Box.mk (hlong.out rfl)
    replace hhash := Box.mk (hhash.out rfl)
    replace hok := Box.mk (hok.out rfl)
    clear hbad
    go_wp2_with fail
    refine h2.mono ?_
    clear h2
    rintro e w2 ⟨rfl, hb2⟩
    replace hA := Box.mk (hA.out.here hb2)
    replace hb := Box.mk (mono_bel hb.out hb2 (Nat.le_refl _))
    clear hb2 q0 q1 q2 q3 q4 q5
    try clear hw1
    obtain ⟨q0, q1, q2, q3, q4, q5⟩ := hA.out.cells
    by_cases hxs : (x.size : Int) = s
    · have hq : ((x.size : Int) != s) = false := by simpa using hxs
      have qA := Box.mk fun w' (hx : Below w2.heap.size w2 w') => (hA.out.here hx).cells
      clear q0 q2 q3 q4 q5
      go_wp2_with fail
      refine region_sC (fun w' => Below w2.heap.size w2 w') (fun w' => Below w2.heap.size w2 w') (fun w w' => w = w') rfl (dB w2) ?_
      refine anyS_calms [0, 3, 4] 4 rfl (fun _ => rfl) (stE fun _ h => h) (by kernel_rfl) (by kernel_rfl) (by kernel_rfl) ?_
      simp [nth]
      try simp only [Act.put, List.setIfInBounds_toArray, List.set_cons_succ, List.set_cons_zero]
      repeat (go_big_quiet_step (first | exact fun _ => rfl | rfl))
      refine quiet_val rfl (.string h) (fun w' hw' => by obtain ⟨q0, q1, q2, q3, q4, q5⟩ := qA.out w' hw'; go_simp) ?_
      simp only [Act.put, List.setIfInBounds_toArray, List.set_cons_succ, List.set_cons_zero]
      repeat (go_big_quiet_step (first | exact fun _ => rfl | rfl))
      refine wpQuiet_nil ?_
      have hbW := Box.mk fun w' (hx : Below w2.heap.size w2 w') => (mono_bel hb.out hx (Nat.le_refl _) : Below w.heap.size w w')
      replace hhash := Box.mk (hhash.out hxs)
      replace hok := Box.mk (hok.out hxs)
      refine anyS_forced 1 (by kernel_rfl) rfl rfl (fun wa hWa K hK => ?_)
      have hcall := Box.mk (hS.out wa)
      have hWa2 := Box.mk (fun w' (hx : Below wa.heap.size wa w') => (mono_bel hWa hx (Nat.le_refl _) : Below w2.heap.size w2 w'))
      go_simp
      refine hK _ _ (fun w' => w' = wa.alloc (.cells #[.string x] 9)) (stE fun w' e => e ▸ hWa2.out _ (bel_alloc _ _)) rfl ?_
      clear hK K
      refine anyS_forced 2 (by kernel_rfl) rfl rfl (fun wc hWc K hK => ?_)
      subst hWc
      have hF := hcall.out
      go_simp
      refine hF.mono ?_
      rintro e wd ⟨rfl, hbd⟩
      have hb8 := Box.mk (hWa2.out wd hbd)
      refine hK _ _ (fun w' => w' = wd) (stE fun w' e => e ▸ hb8.out) rfl ?_
      clear hK K hF hbd hcall hWa hWa2
      have hb9 := Box.mk (hbW.out wd hb8.out)
      by_cases hHh : H = h
      · have heq : (H.toList == h.toList) = true := by rw [eqT, decide_eq_true hHh]
        replace hok := Box.mk (hok.out hHh)
        refine anyS_calms [5, 6] 0 rfl (fun _ => rfl) (stE fun w' e => e ▸ hb8.out) (by kernel_rfl) (by kernel_rfl) (by kernel_rfl) ?_
        simp [nth]
        try simp only [Act.put, List.setIfInBounds_toArray, List.set_cons_succ, List.set_cons_zero]
        repeat (go_big_quiet_step (first | exact fun _ => rfl | rfl))
        refine wpQuiet_nil ?_
        refine anyS_done (by kernel_rfl) ?_
        rintro w9 rfl
        go_wp2_with fail
        go_ret
        exact ⟨by rw [hok.out]; rfl, by first | exact hb9.out | exact hbe ▸ hb9.out⟩
      · have heq : (H.toList == h.toList) = false := by rw [eqT, decide_eq_false hHh]
        replace hhash := Box.mk (hhash.out hHh)
        refine anyS_calms [5, 6] 0 rfl (fun _ => rfl) (stE fun w' e => e ▸ hb8.out) (by kernel_rfl) (by kernel_rfl) (by kernel_rfl) ?_
        simp [nth]
        try simp only [Act.put, List.setIfInBounds_toArray, List.set_cons_succ, List.set_cons_zero]
        repeat (go_big_quiet_step (first | exact fun _ => rfl | rfl))
        refine wpQuiet_nil ?_
        refine anyS_done (by kernel_rfl) ?_
        rintro w9 rfl
        go_wp2_with fail
        go_ret
        exact ⟨by rw [hhash.out]; rfl, by first | exact hb9.out | exact hbe ▸ hb9.out⟩
    · have hq : ((x.size : Int) != s) = true := by simpa using hxs
      replace hlong := Box.mk (hlong.out hxs)
      clear hhash hok
      go_wp2_with fail
      go_ret
      exact ⟨by rw [hlong.out]; rfl, by first | exact hb.out | exact hbe ▸ hb.out⟩
/-- What Fits answers. -/
def fitI (v s c : Int) (h t : ByteArray) (l : List ByteArray) (i : Int) (x : ByteArray) : Int :=
  if l.length ≠ 0 ∧ (0 ≤ i ∧ i < (cnM v s c h t l : Int)) then (if (x.size : Int) = min ((i + 1) * c) s - i * c then (if leafH x = l.getD i.toNat ByteArray.empty then 0 else 10) else 4) else 1
theorem fit_eq (v s c : Int) (h t : ByteArray) (l : List ByteArray) (i : Int) (x : ByteArray) : fitI v s c h t l i x = 
  if l.length ≠ 0 ∧ (0 ≤ i ∧ i < (cnM v s c h t l : Int)) then (if (x.size : Int) = min ((i + 1) * c) s - i * c then (if leafH x = l.getD i.toNat ByteArray.empty then 0 else 10) else 4) else 1 := rfl
theorem chk_len {v s c : Int} {h t : ByteArray} {l : List ByteArray} (hc : chkB v s c h t l = true) (h0 : l.length ≠ 0) : l.length = cnM v s c h t l ∧ rootL l = t ∧ ∀ x ∈ l, x.size = 32 := by
  have hn := (cn_yes hc).1
  unfold chkB lstB at hc
  simp only [Bool.and_eq_true, Bool.or_eq_true, decide_eq_true_eq, List.isEmpty_iff, List.all_eq_true] at hc
  rcases hc.2.2.2 with h1 | h1
  · exact absurd (by rw [h1]; rfl) h0
  · exact ⟨by omega, h1.2.2, h1.2.1⟩
set_option maxHeartbeats 1600000 in
set_option maxRecDepth 100000 in
theorem fits_any (v s c i : Int) (h t x : ByteArray) (a : Option Addr) (n k : Nat) (l : List ByteArray) (w : World) (hP : PA w a n k l) (hK : KIs w) (hx : x.size ≤ 140737488354000) :
    Calls Tryd.prog 23 #[.agg #[.int .i64 v, .int .i64 s, .int .i64 c, .string h, .string t, .slice a n k], .int .i64 i, .string x] w fun e w' => e = .returned (.int .i64 (fitI v s c h t l i x)) ∧ Below w.heap.size w w' := by
  have hsh := Box.mk fun w' => short_any v s c h t a n k w'
  have hct := Box.mk fun w' (hx : Below w.heap.size w w') => bcount_any v s c h t a n k l w' (hP.here hx) (hK.below hx hK.lt)
  have hLf := Box.mk fun w' (hy : Below w.heap.size w w') => tleaf_any x w' (hK.below hy hK.lt) (by omega)
  have hf := Box.mk fun hx => chk_sz (cn_pos (v := v) (s := s) (c := c) (h := h) (t := t) (l := l) hx)
  have hm2 := Box.mk fun hx => (cn_yes (cn_pos (v := v) (s := s) (c := c) (h := h) (t := t) (l := l) hx)).2.2
  have hln := Box.mk fun hx h0 => (chk_len (cn_pos (v := v) (s := s) (c := c) (h := h) (t := t) (l := l) hx) h0).1
  have hcut := Box.mk fun w' h64 h1024 h0 h128 hs hs1 => ucut_any v s c i h t a n k w' h64 h1024 h0 h128 hs hs1
  have hPB := Box.mk fun w' (hx : Below w.heap.size w w') => hP.here hx
  have hlen := Box.mk hP.len
  have hcap := hP.cap
  have htop := hP.top
  have hZB := Box.mk (fit_eq v s c h t l i x)
  obtain ⟨m, hm⟩ : ∃ m, cnM v s c h t l = m := ⟨_, rfl⟩
  rw [hm] at hct hf hm2 hln hZB
  rw [hlen.out] at hZB
  obtain ⟨Z, hZ⟩ : ∃ Z, fitI v s c h t l i x = Z := ⟨_, rfl⟩
  have hZC := Box.mk hZ
  rw [hZ]
  clear hm hZ hP hK
  have hb := bel_alloc w (.cells #[.int .i64 v, .int .i64 s, .int .i64 c, .string h, .string t, .slice a n k] 25)
  have hA := BAt.new w v s c h t (.slice a n k)
  obtain ⟨w1, hw1⟩ : ∃ W, w.alloc (.cells #[.int .i64 v, .int .i64 s, .int .i64 c, .string h, .string t, .slice a n k] 25) = W := ⟨_, rfl⟩
  rw [hw1] at hb hA
  obtain ⟨b, hbe⟩ : ∃ b, w.heap.size = b := ⟨_, rfl⟩
  rw [hbe] at hA
  obtain ⟨q0, q1, q2, q3, q4, q5⟩ := hA.cells
  replace hb := Box.mk hb
  replace hA := Box.mk hA
  have h2 := hsh.out w1
  clear hsh
  go_enter Tryd.func23, Tryd.ntmps23
  go_wp2_with fail
  refine h2.mono ?_
  clear h2
  rintro e w2 ⟨rfl, hb2⟩
  replace hA := Box.mk (hA.out.here hb2)
  replace hb := Box.mk (mono_bel hb.out hb2 (Nat.le_refl _))
  clear hb2 q0 q1 q2 q3 q4 q5
  try clear hw1
  obtain ⟨q0, q1, q2, q3, q4, q5⟩ := hA.out.cells
  by_cases hn0 : n = 0
  · have hd : decide (n = 0) = true := by simpa using hn0
    have hZ1 : Box (Z = 1) := ⟨by rw [← hZC.out, hZB.out, if_neg (fun h => h.1 hn0)]⟩
    rw [hd]
    clear hn0
    go_wp2_with fail
    go_ret
    exact ⟨by rw [hZ1.out]; rfl, by first | exact hb.out | exact hbe ▸ hb.out⟩
  have hd : decide (n = 0) = false := by simpa using hn0
  rw [hd]
  clear hd
  by_cases hi0 : i < 0
  · have hZ1 : Box (Z = 1) := ⟨by rw [← hZC.out, hZB.out, if_neg (fun h => by omega)]⟩
    go_wp2_with fail
    go_ret
    exact ⟨by rw [hZ1.out]; rfl, by first | exact hb.out | exact hbe ▸ hb.out⟩
  have h2 := hct.out w2 hb.out
  clear hct
  go_wp2_with fail
  refine h2.mono ?_
  clear h2
  rintro e w3 ⟨rfl, hb2⟩
  replace hA := Box.mk (hA.out.here hb2)
  replace hb := Box.mk (mono_bel hb.out hb2 (Nat.le_refl _))
  clear hb2 q0 q1 q2 q3 q4 q5
  try clear hw1
  obtain ⟨q0, q1, q2, q3, q4, q5⟩ := hA.out.cells
  by_cases hi1 : i ≥ (m : Int)
  · have hZ1 : Box (Z = 1) := ⟨by rw [← hZC.out, hZB.out, if_neg (fun h => by omega)]⟩
    go_wp2_with fail
    go_ret
    exact ⟨by rw [hZ1.out]; rfl, by first | exact hb.out | exact hbe ▸ hb.out⟩
  rw [if_pos (by omega)] at hZB
  rw [hZC.out] at hZB
  obtain ⟨s0, s1, c0, c1⟩ := hf.out (by omega)
  have hm128 := hm2.out (by omega)
  have hnm : n = m := by rw [← hlen.out]; exact hln.out (by omega) (by rw [hlen.out]; omega)
  subst hnm
  have h3 := hcut.out w3 c0 c1 (by omega) (by omega) (by omega) s1
  obtain ⟨m0, m1⟩ := mul_le (i := i) (m := 129) c0 c1 (by omega) (by omega) (by omega)
  obtain ⟨m2, m3⟩ := mul_le (i := i + 1) (m := 129) c0 c1 (by omega) (by omega) (by omega)
  have hMb : -132096 ≤ min ((i + 1) * c) s - i * c ∧ min ((i + 1) * c) s - i * c ≤ 132096 := by omega
  obtain ⟨X, hX⟩ : ∃ X, i * c = X := ⟨_, rfl⟩
  obtain ⟨Y, hY⟩ : ∃ Y, min ((i + 1) * c) s = Y := ⟨_, rfl⟩
  rw [hX, hY] at h3 hZB hMb
  obtain ⟨hMb0, hMb1⟩ := hMb
  obtain ⟨j, rfl⟩ : ∃ j : Nat, i = (j : Int) := ⟨i.toNat, by omega⟩
  have hcell := (hPB.out w3 hb.out).at_ (by omega)
  obtain ⟨blk, off, rfl, hblk, hcell⟩ := hcell
  have hcl := hcell j (by omega)
  rw [Int.toNat_natCast] at hZB
  obtain ⟨y, hy⟩ : ∃ y, l.getD j ByteArray.empty = y := ⟨_, rfl⟩
  rw [hy] at hcl hZB
  have hclB := Box.mk fun w' (hb : Below w3.heap.size w3 w') => (hb.cell (p := ⟨blk, off + j, none⟩) hblk).trans hcl
  have hjn : j < n := by omega
  clear hX hY hy hcell hcl hblk hcut hPB hf hm2 hln m0 m1 m2 m3
  go_wp2_with fail
  refine h3.mono ?_
  clear h3
  rintro e w4 ⟨rfl, hb4⟩
  have hb2 := hb4
  replace hclB := Box.mk fun w' (hb : Below w4.heap.size w4 w') => hclB.out w' (mono_bel hb4 hb (Nat.le_refl _))
  clear hb4
  replace hA := Box.mk (hA.out.here hb2)
  replace hb := Box.mk (mono_bel hb.out hb2 (Nat.le_refl _))
  clear hb2 q0 q1 q2 q3 q4 q5
  try clear hw1
  obtain ⟨q0, q1, q2, q3, q4, q5⟩ := hA.out.cells
  by_cases hxl : (x.size : Int) = Y - X
  · rw [if_pos hxl] at hZB
    have hq : ((x.size : Int) != Y - X) = false := by simpa using hxl
    have qA := Box.mk fun w' (hx : Below w4.heap.size w4 w') => (hA.out.here hx).cells
    have hbW := Box.mk fun w' (hx : Below w4.heap.size w4 w') => (mono_bel hb.out hx (Nat.le_refl _) : Below w.heap.size w w')
    obtain ⟨F, hF⟩ : ∃ F, leafH x = F := ⟨_, rfl⟩
    rw [hF] at hLf hZB
    clear q0 q1 q2 q3 q4 q5 hF hxl
    go_wp2_with fail
    refine region_quiet (fun w' => Below w4.heap.size w4 w') (by kernel_rfl) (by kernel_rfl) (dB _) ?_
    repeat (go_big_quiet_step (first | exact fun _ => rfl | rfl))
    refine quiet_call rfl (.string F) (fun w' hw' => bel_call (hLf.out w' (hbW.out w' hw')) hw') (fun w' _ => by go_simp) ?_
    simp only [Act.put, List.setIfInBounds_toArray, List.set_cons_succ, List.set_cons_zero]
    repeat (go_big_quiet_step (first | exact fun _ => rfl | rfl))
    refine quiet_val rfl (.slice (some ⟨blk, off, none⟩) n k) (fun w' hw' => by obtain ⟨q0, q1, q2, q3, q4, q5⟩ := qA.out w' hw'; go_simp) ?_
    simp only [Act.put, List.setIfInBounds_toArray, List.set_cons_succ, List.set_cons_zero]
    repeat (go_big_quiet_step (first | exact fun _ => rfl | rfl))
    by_cases hFy : F = y
    · have heq : (F.toList == y.toList) = true := by rw [eqT, decide_eq_true hFy]
      rw [if_pos hFy] at hZB
      refine quiet_val rfl (.string y) (fun w' hw' => by have := hclB.out w' hw'; go_simp) ?_
      simp only [Act.put, List.setIfInBounds_toArray, List.set_cons_succ, List.set_cons_zero]
      repeat (go_big_quiet_step (first | exact fun _ => rfl | rfl))
      refine wpQuiet_nil ?_
      intro w5 hw5
      go_wp2_with fail
      go_ret
      exact ⟨by rw [← hZB.out]; rfl, by first | exact hbW.out w5 hw5 | exact hbe ▸ hbW.out w5 hw5⟩
    · have heq : (F.toList == y.toList) = false := by rw [eqT, decide_eq_false hFy]
      rw [if_neg hFy] at hZB
      refine quiet_val rfl (.string y) (fun w' hw' => by have := hclB.out w' hw'; go_simp) ?_
      simp only [Act.put, List.setIfInBounds_toArray, List.set_cons_succ, List.set_cons_zero]
      repeat (go_big_quiet_step (first | exact fun _ => rfl | rfl))
      refine wpQuiet_nil ?_
      intro w5 hw5
      go_wp2_with fail
      go_ret
      exact ⟨by rw [← hZB.out]; rfl, by first | exact hbW.out w5 hw5 | exact hbe ▸ hbW.out w5 hw5⟩
  · rw [if_neg hxl] at hZB
    have hq : ((x.size : Int) != Y - X) = true := by simpa using hxl
    clear hxl
    go_wp2_with fail
    go_ret
    exact ⟨by rw [← hZB.out]; rfl, by first | exact hb.out | exact hbe ▸ hb.out⟩
set_option maxHeartbeats 1600000 in
set_option maxRecDepth 100000 in
theorem rfits_any (v s c i : Int) (h t x : ByteArray) (a : Option Addr) (n k : Nat) (l : List ByteArray) (w : World) (hP : PA w a n k l) (hF : Fit l) (hx : x.size ≤ 140737488354000) :
    Calls Tryd.prog 24 #[.agg #[.int .i64 v, .int .i64 s, .int .i64 c, .string h, .string t, .slice a n k], .int .i64 i, .string x] w fun e w' => e = .returned (.int .i64 (fitI v s c h t l i x)) ∧ Below w.heap.size w w' := by
  have hct := Box.mk fun w' (hx : Below w.heap.size w w') => rcut_any v s c i h t a n k l w' (hP.here hx) hF
  have hLf := Box.mk fun w' => rleaf_any x w' (by omega)
  have hf := Box.mk fun hx => chk_sz (cn_pos (v := v) (s := s) (c := c) (h := h) (t := t) (l := l) hx)
  have hm2 := Box.mk fun hx => (cn_yes (cn_pos (v := v) (s := s) (c := c) (h := h) (t := t) (l := l) hx)).2.2
  have hln := Box.mk fun hx h0 => (chk_len (cn_pos (v := v) (s := s) (c := c) (h := h) (t := t) (l := l) hx) h0).1
  have hPB := Box.mk fun w' (hx : Below w.heap.size w w') => hP.here hx
  have hlen := Box.mk hP.len
  have hcap := hP.cap
  have htop := hP.top
  have hZB := Box.mk (fit_eq v s c h t l i x)
  obtain ⟨m, hm⟩ : ∃ m, cnM v s c h t l = m := ⟨_, rfl⟩
  rw [hm] at hct hf hm2 hln hZB
  rw [hlen.out] at hZB
  obtain ⟨Z, hZ⟩ : ∃ Z, fitI v s c h t l i x = Z := ⟨_, rfl⟩
  have hZC := Box.mk hZ
  rw [hZ]
  clear hm hZ hP hF
  have hb := bel_alloc w (.cells #[.int .i64 v, .int .i64 s, .int .i64 c, .string h, .string t, .slice a n k] 25)
  have hA := BAt.new w v s c h t (.slice a n k)
  obtain ⟨w1, hw1⟩ : ∃ W, w.alloc (.cells #[.int .i64 v, .int .i64 s, .int .i64 c, .string h, .string t, .slice a n k] 25) = W := ⟨_, rfl⟩
  rw [hw1] at hb hA
  obtain ⟨b, hbe⟩ : ∃ b, w.heap.size = b := ⟨_, rfl⟩
  rw [hbe] at hA
  obtain ⟨q0, q1, q2, q3, q4, q5⟩ := hA.cells
  replace hb := Box.mk hb
  replace hA := Box.mk hA
  have h2 := hct.out w1 hb.out
  clear hct
  by_cases hi : 0 ≤ i ∧ i < (m : Int)
  · rw [cut_yes hi] at h2
    obtain ⟨hi0, hi1⟩ := hi
    obtain ⟨s0, s1, c0, c1⟩ := hf.out (by omega)
    have hm128 := hm2.out (by omega)
    obtain ⟨m0, m1⟩ := mul_le (i := i) (m := 129) c0 c1 (by omega) (by omega) (by omega)
    obtain ⟨m2, m3⟩ := mul_le (i := i + 1) (m := 129) c0 c1 (by omega) (by omega) (by omega)
    have hYb : 1 ≤ min ((i + 1) * c) s := by
      have : (i + 1) * c = i * c + c := by rw [Int.add_mul, Int.one_mul]
      omega
    have hMb : -132096 ≤ min ((i + 1) * c) s - i * c ∧ min ((i + 1) * c) s - i * c ≤ 132096 := by omega
    obtain ⟨X, hX⟩ : ∃ X, i * c = X := ⟨_, rfl⟩
    obtain ⟨Y, hY⟩ : ∃ Y, min ((i + 1) * c) s = Y := ⟨_, rfl⟩
    dsimp only at h2
    rw [hX, hY] at h2 hZB hMb
    rw [hY] at hYb
    obtain ⟨hMb0, hMb1⟩ := hMb
    have hY0 : (Y == 0) = false := by simp; omega
    clear hX hY m0 m1 m2 m3 hf hm2
    go_enter Tryd.func24, Tryd.ntmps24
    go_wp2_with fail
    refine h2.mono ?_
    clear h2
    rintro e w4 ⟨rfl, hb2⟩
    replace hA := Box.mk (hA.out.here hb2)
    replace hb := Box.mk (mono_bel hb.out hb2 (Nat.le_refl _))
    clear hb2 q0 q1 q2 q3 q4 q5
    try clear hw1
    obtain ⟨q0, q1, q2, q3, q4, q5⟩ := hA.out.cells
    by_cases hn0 : n = 0
    · have hd : ((n : Int) == 0) = true := by rw [hn0]; rfl
      have hZ1 : Box (Z = 1) := ⟨by rw [← hZC.out, hZB.out, if_neg (fun h => h.1 hn0)]⟩
      clear hn0
      go_wp2_with fail
      go_ret
      exact ⟨by rw [hZ1.out]; rfl, by first | exact hb.out | exact hbe ▸ hb.out⟩
    have hd : ((n : Int) == 0) = false := by simp; omega
    rw [if_pos (by omega)] at hZB
    rw [hZC.out] at hZB
    have hnm : n = m := by rw [← hlen.out]; exact hln.out (by omega) (by rw [hlen.out]; omega)
    subst hnm
    obtain ⟨j, rfl⟩ : ∃ j : Nat, i = (j : Int) := ⟨i.toNat, by omega⟩
    have hcell := (hPB.out w4 hb.out).at_ (by omega)
    obtain ⟨blk, off, rfl, hblk, hcell⟩ := hcell
    have hcl := hcell j (by omega)
    rw [Int.toNat_natCast] at hZB
    obtain ⟨y, hy⟩ : ∃ y, l.getD j ByteArray.empty = y := ⟨_, rfl⟩
    rw [hy] at hcl hZB
    have hclB := Box.mk fun w' (hb : Below w4.heap.size w4 w') => (hb.cell (p := ⟨blk, off + j, none⟩) hblk).trans hcl
    have hjn : j < n := by omega
    clear hy hcell hcl hblk hPB hln
    by_cases hxl : (x.size : Int) = Y - X
    · rw [if_pos hxl] at hZB
      have hq : ((x.size : Int) != Y - X) = false := by simpa using hxl
      have qA := Box.mk fun w' (hx : Below w4.heap.size w4 w') => (hA.out.here hx).cells
      have hbW := Box.mk fun w' (hx : Below w4.heap.size w4 w') => (mono_bel hb.out hx (Nat.le_refl _) : Below w.heap.size w w')
      obtain ⟨F, hF⟩ : ∃ F, leafH x = F := ⟨_, rfl⟩
      rw [hF] at hLf hZB
      clear hF hxl
      go_wp2_with fail
      refine region_quiet (fun w' => Below w4.heap.size w4 w') (by kernel_rfl) (by kernel_rfl) (dB _) ?_
      repeat (go_big_quiet_step (first | exact fun _ => rfl | rfl))
      refine quiet_call rfl (.string F) (fun w' hw' => bel_call (hLf.out w') hw') (fun w' _ => by go_simp) ?_
      simp only [Act.put, List.setIfInBounds_toArray, List.set_cons_succ, List.set_cons_zero]
      repeat (go_big_quiet_step (first | exact fun _ => rfl | rfl))
      refine quiet_val rfl (.slice (some ⟨blk, off, none⟩) n k) (fun w' hw' => by obtain ⟨q0, q1, q2, q3, q4, q5⟩ := qA.out w' hw'; go_simp) ?_
      simp only [Act.put, List.setIfInBounds_toArray, List.set_cons_succ, List.set_cons_zero]
      repeat (go_big_quiet_step (first | exact fun _ => rfl | rfl))
      by_cases hFy : F = y
      · have heq : (F.toList == y.toList) = true := by rw [eqT, decide_eq_true hFy]
        rw [if_pos hFy] at hZB
        refine quiet_val rfl (.string y) (fun w' hw' => by have := hclB.out w' hw'; go_simp) ?_
        simp only [Act.put, List.setIfInBounds_toArray, List.set_cons_succ, List.set_cons_zero]
        repeat (go_big_quiet_step (first | exact fun _ => rfl | rfl))
        refine wpQuiet_nil ?_
        intro w5 hw5
        go_wp2_with fail
        go_ret
        exact ⟨by rw [← hZB.out]; rfl, by first | exact hbW.out w5 hw5 | exact hbe ▸ hbW.out w5 hw5⟩
      · have heq : (F.toList == y.toList) = false := by rw [eqT, decide_eq_false hFy]
        rw [if_neg hFy] at hZB
        refine quiet_val rfl (.string y) (fun w' hw' => by have := hclB.out w' hw'; go_simp) ?_
        simp only [Act.put, List.setIfInBounds_toArray, List.set_cons_succ, List.set_cons_zero]
        repeat (go_big_quiet_step (first | exact fun _ => rfl | rfl))
        refine wpQuiet_nil ?_
        intro w5 hw5
        go_wp2_with fail
        go_ret
        exact ⟨by rw [← hZB.out]; rfl, by first | exact hbW.out w5 hw5 | exact hbe ▸ hbW.out w5 hw5⟩
    · rw [if_neg hxl] at hZB
      have hq : ((x.size : Int) != Y - X) = true := by simpa using hxl
      clear hxl
      go_wp2_with fail
      go_ret
      exact ⟨by rw [← hZB.out]; rfl, by first | exact hb.out | exact hbe ▸ hb.out⟩
  · rw [cut_no hi] at h2
    have hZ1 : Box (Z = 1) := ⟨by rw [← hZC.out, hZB.out, if_neg (fun h => hi h.2)]⟩
    dsimp only at h2
    clear hi
    go_enter Tryd.func24, Tryd.ntmps24
    go_wp2_with fail
    refine h2.mono ?_
    clear h2
    rintro e w4 ⟨rfl, hb2⟩
    replace hA := Box.mk (hA.out.here hb2)
    replace hb := Box.mk (mono_bel hb.out hb2 (Nat.le_refl _))
    clear hb2 q0 q1 q2 q3 q4 q5
    try clear hw1
    obtain ⟨q0, q1, q2, q3, q4, q5⟩ := hA.out.cells
    go_wp2_with fail
    go_ret
    exact ⟨by rw [hZ1.out]; rfl, by first | exact hb.out | exact hbe ▸ hb.out⟩
