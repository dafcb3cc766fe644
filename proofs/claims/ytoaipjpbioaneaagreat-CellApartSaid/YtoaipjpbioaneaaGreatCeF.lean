/- The program's cell in memory: Put, Drop, Undo. -/
import Derived.Test.YtoaipjpbioaneaaGreatCeE
namespace Go.Proofs.YtoaipjpbioaneaaGreat
open Go.RowKit Go.Maps

theorem data_nil {s : ByteArray} (h : s.size = 0) : s.toList.isEmpty = true := by
  rw [ByteArray.toList_eq]
  have : s.data.toList.length = 0 := by rw [data_len]; exact h
  rw [List.eq_nil_of_length_eq_zero this]; rfl
theorem data_cons {s : ByteArray} (h : s.size ≠ 0) : s.toList.isEmpty = false := by
  rw [ByteArray.toList_eq]
  have : s.data.toList.length ≠ 0 := by rw [data_len]; exact h
  cases hs : s.data.toList with
  | nil => rw [hs] at this; exact absurd rfl this
  | cons x l => rfl
set_option maxHeartbeats 400000 in
theorem put_nil (s t : ByteArray) (w : World) : Calls Tryz.prog 17 #[.pointer none, .string s, .string t] w fun e w' => e = .returned (.int .i64 1) ∧ w = w' := by
  go_enter Tryz.func17, Tryz.ntmps17
  go_wp2_with fail
  go_returns
  exact ⟨rfl, rfl⟩
/-- What Put leaves of a cell's map. -/
def PutLeft (w : World) (bn : Nat) (c : Ct) (w' : World) : Prop := MapAt w' bn c ∧ Chg (fun k => k = bn) w w'
theorem PutLeft.same {w w' : World} {bn : Nat} {c : Ct} (h : MapAt w bn c) (hb : Below w.heap.size w w') : PutLeft w bn c w' := ⟨h.below hb h.lt, (Chg.of_below hb).mono fun i hi hk => by omega⟩
set_option maxHeartbeats 3200000 in
set_option maxRecDepth 100000 in
theorem put_map (bc bn : Nat) (cs : List Value) (c : Ct) (s t : ByteArray) (w : World) (hb : Blk w bc (.map (some bn) :: cs) 69) (hM : MapAt w bn c) (hc : c.ok) (hs : s.size ≤ maxLen) (ht : t.size ≤ maxLen) :
    Calls Tryz.prog 17 #[.pointer (some ⟨bc, 0, none⟩), .string s, .string t] w fun e w' => e = .returned (.int .i64 (putE c s.data.toList t.data.toList)) ∧ Box (PutLeft w bn (putM c s.data.toList t.data.toList) w') := by
  have c0 : w.cell? ⟨bc, 0, none⟩ = some (.map (some bn)) := hb.cell 0
  have hne := hM.ne hb
  have hcn := hc.n
  have hsl := data_len s
  have htl := data_len t
  by_cases q1 : s.size = 0
  · have he : s.toList.isEmpty = true := data_nil q1
    have hE : Box (putE c s.data.toList t.data.toList = 1) := ⟨by unfold putE; rw [if_pos (by omega)]⟩
    have hR : Box (PutLeft w bn (putM c s.data.toList t.data.toList) w) := ⟨by unfold putM; rw [hE.out, if_neg (by decide)]; exact PutLeft.same hM (Below.refl _ _)⟩
    clear hM hsl htl
    go_enter Tryz.func17, Tryz.ntmps17
    go_wp2_with fail
    go_returns
    exact ⟨by rw [hE.out]; rfl, hR⟩
  · have he : s.toList.isEmpty = false := data_cons q1
    by_cases q2 : 32 < s.size
    · have hE : Box (putE c s.data.toList t.data.toList = 1) := ⟨by unfold putE; rw [if_pos (by omega)]⟩
      have hR : Box (PutLeft w bn (putM c s.data.toList t.data.toList) w) := ⟨by unfold putM; rw [hE.out, if_neg (by decide)]; exact PutLeft.same hM (Below.refl _ _)⟩
      have q3 : (32 : Int) < (s.size : Int) := by omega
      clear hM hsl htl
      replace q1 := Box.mk q1
      go_enter Tryz.func17, Tryz.ntmps17
      go_wp2_with fail
      go_returns
      exact ⟨by rw [hE.out]; rfl, hR⟩
    · have q3 : ¬ (32 : Int) < (s.size : Int) := by omega
      by_cases q4 : 65535 < t.size
      · have hE : Box (putE c s.data.toList t.data.toList = 4) := ⟨by unfold putE; rw [if_neg (by omega), if_pos (by omega)]⟩
        have hR : Box (PutLeft w bn (putM c s.data.toList t.data.toList) w) := ⟨by unfold putM; rw [hE.out, if_neg (by decide)]; exact PutLeft.same hM (Below.refl _ _)⟩
        have q5 : (65535 : Int) < (t.size : Int) := by omega
        clear hM hsl htl
        replace q1 := Box.mk q1
        go_enter Tryz.func17, Tryz.ntmps17
        go_wp2_with fail
        go_returns
        exact ⟨by rw [hE.out]; rfl, hR⟩
      · have q5 : ¬ (65535 : Int) < (t.size : Int) := by omega
        obtain ⟨tx, htx⟩ : ∃ tx, btx ((getC c s.data.toList).getD []) = tx := ⟨_, rfl⟩
        obtain ⟨y, hy⟩ : ∃ y, (getC c s.data.toList).isSome = y := ⟨_, rfl⟩
        have hrw : Box (Value.tuple #[.agg #[.string (btx ((getC c s.data.toList).getD []))], .bool (getC c s.data.toList).isSome] = .tuple #[.agg #[.string tx], .bool y]) := ⟨by rw [htx, hy]⟩
        obtain ⟨wb, hwb⟩ : ∃ wb, w.alloc (.cells #[.string tx] 79) = wb := ⟨_, rfl⟩
        have hBb : Box (Below w.heap.size w wb) := ⟨by rw [← hwb]; exact (Below.refl _ _).alloc (Nat.le_refl _) _⟩
        have hMb : MapAt wb bn c := hM.below hBb.out hM.lt
        have c0b : wb.cell? ⟨bc, 0, none⟩ = some (.map (some bn)) := by rw [hBb.out.cell (p := ⟨bc, 0, none⟩) hb.lt]; exact c0
        have hlen : ∀ ty, (Builtin.len_ #[65] ty #[.map (some bn)]).run Tryz.prog wb = .ok (.int .i64 (c.length : Int)) wb := fun ty => by
          have := World.ownsMap.len hMb Tryz.underlying65 ty
          rwa [contD_size] at this
        have hbl := hb.lt
        replace hM := Box.mk hM
        replace hMb := Box.mk hMb
        replace hs := Box.mk hs
        replace ht := Box.mk ht
        have q1p : 1 ≤ s.size := by omega
        replace q1 := Box.mk q1
        replace hne := Box.mk hne
        by_cases q6 : y = false ∧ 64 ≤ c.length
        · obtain ⟨rfl, q7⟩ := q6
          have hE : Box (putE c s.data.toList t.data.toList = 6) := ⟨by
            unfold putE
            rw [if_neg (by omega), if_neg (by omega), if_pos ⟨by simpa using hy, q7⟩]⟩
          have hR : Box (PutLeft w bn (putM c s.data.toList t.data.toList) wb) := ⟨by unfold putM; rw [hE.out, if_neg (by decide)]; exact PutLeft.same hM.out hBb.out⟩
          have q8 : (64 : Int) ≤ (c.length : Int) := by omega
          clear hsl htl htx hy hb
          replace hc := Box.mk hc
          go_enter Tryz.func17, Tryz.ntmps17
          go_wp2_with (at_lookup; refine wpList_look_ok rfl _ _ rfl bn c rfl hM.out s rfl hs.out ?_; rw [hrw.out])
          go_returns
          exact ⟨by rw [hE.out]; rfl, hR⟩
        · have hE : Box (putE c s.data.toList t.data.toList = 0) := ⟨by
            unfold putE
            rw [if_neg (by omega), if_neg (by omega), if_neg]
            rintro ⟨h1, h2⟩
            exact q6 ⟨by rw [← hy, h1]; rfl, h2⟩⟩
          have hput : Box (putM c s.data.toList t.data.toList = putC c s.data.toList t.data.toList) := ⟨by unfold putM; rw [if_pos hE.out]⟩
          have hclen : Box (c.length < 1000000) := ⟨by omega⟩
          have hrise : Box (c.Pairwise (fun p q => p.1 < q.1)) := ⟨hc.rise⟩
          have hend : Box (∀ w', MapAt w' bn (putC c s.data.toList t.data.toList) → Chg (fun k => k = bn) wb w' → PutLeft w bn (putM c s.data.toList t.data.toList) w') := ⟨fun w' h1 h2 => by
            rw [hput.out]
            exact ⟨h1, ((Chg.of_below hBb.out).mono (T := fun k => k = bn) fun i hi hk => by omega).trans h2 fun _ _ h => h⟩⟩
          replace hc := Box.mk hc
          cases y with
          | true =>
            clear hsl htl htx hy hb hlen
            go_enter Tryz.func17, Tryz.ntmps17
            go_wp2_with (first | (at_lookup; refine wpList_look_ok rfl _ _ rfl bn c rfl hM.out s rfl hs.out ?_; rw [hrw.out]) | (at_mapUpdate; refine wpList_store rfl _ _ _ rfl bn c rfl hMb.out hrise.out hclen.out s t rfl rfl hs.out ht.out ?_; intro w6 hM6 hC6))
            have hR := Box.mk (hend.out w6 hM6 hC6)
            clear hM6 hC6 hend
            go_returns
            exact ⟨by rw [hE.out]; rfl, hR⟩
          | false =>
            have q8 : ¬ (64 : Int) ≤ (c.length : Int) := by
              have : ¬ 64 ≤ c.length := fun h => q6 ⟨rfl, h⟩
              omega
            clear hsl htl htx hy hb
            go_enter Tryz.func17, Tryz.ntmps17
            go_wp2_with (first | (at_lookup; refine wpList_look_ok rfl _ _ rfl bn c rfl hM.out s rfl hs.out ?_; rw [hrw.out]) | (at_mapUpdate; refine wpList_store rfl _ _ _ rfl bn c rfl hMb.out hrise.out hclen.out s t rfl rfl hs.out ht.out ?_; intro w6 hM6 hC6))
            have hR := Box.mk (hend.out w6 hM6 hC6)
            clear hM6 hC6 hend
            go_returns
            exact ⟨by rw [hE.out]; rfl, hR⟩
end Go.Proofs.YtoaipjpbioaneaaGreat
