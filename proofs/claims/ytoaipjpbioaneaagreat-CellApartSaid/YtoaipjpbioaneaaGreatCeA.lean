/- Walks of maps.Copy (into a new map), of maps.Clone, and of a content's names. -/
import Derived.Test.YtoaipjpbioaneaaGreatCeL
import Derived.Test.YtoaipjpbioaneaaGreatCeS
import Derived.Maps.Ext
import Derived.Maps.RangeWalk
import Derived.Laws.IdiomRangeMap
import Derived.Shelf.AbstractIn
namespace Go.Proofs.YtoaipjpbioaneaaGreat
open Go.RowKit Go.Maps Go.Sort Go.Shelf

theorem entV {v : Value} {y : DataW Unit × List MemPlace} (h : entR v = some y) : ∃ s : ByteArray, v = .agg #[.string s] := by
  obtain ⟨s, rfl, _⟩ := entR_inv h; exact ⟨s, rfl⟩
theorem contD_canon {c : Ct} (h : c.Pairwise (fun p q => p.1 < q.1)) : Canon (contD c) :=
  ⟨_, rfl, List.pairwise_map.2 (h.imp fun {p q} h1 => by show bytesBefore p.1 q.1 = true; rw [bytes_lt]; simpa using h1), fun p hp => by
    obtain ⟨q, _, rfl⟩ := List.mem_map.1 hp
    trivial⟩

set_option maxHeartbeats 4000000 in
set_option maxRecDepth 100000 in
theorem mcopy_any (bd bs : Nat) (c : Ct) (w : World) (hd : MapAt w bd []) (hs : MapAt w bs c) (hne : bd ≠ bs) (hc : c.Pairwise (fun p q => p.1 < q.1)) (hl : c.length ≤ 1000000) :
    Calls Tryz.prog 50 #[.map (some bd), .map (some bs)] w fun e w' => e = .returned (.tuple #[]) ∧ MapAt w' bd c ∧ Chg (fun k => k = bd) w w' := by
  have hbd := hd.lt
  have hbs := hs.lt
  go_enter Tryz.func50, Tryz.ntmps50
  go_wp2_with (first
    | (at_range; refine wpList_range_own _ rfl _ 65 rfl 9 79 keyed Tryz.underlying65 entR bs c.length _ rfl hs ?_; intro w0 hrg0 hg0 hs0)
    | go_in)
  go_frame
  go_loopw [8] (fun _ wr => ∃ (left : Lit → Bool) (cnt : Nat) (Dout : DataW Unit), wr.ranges Tryz.prog 9 entR bs w.heap.size c.length (contD c) left cnt ∧ cnt ≤ c.length ∧
      wr.ownsMap Tryz.prog 9 entR bd (c.length - cnt) Dout ∧ Agree Dout (contD c) left ∧ w.grownBy wr (some bd))
    (fun _ wr => wr.rangeLeft bs w.heap.size)
  case atStart =>
    have h0 : Maps.size (contD c) = c.length := contD_size c
    exact ⟨_, _, .map [], hrg0, Nat.le_of_eq h0, by rw [h0, Nat.sub_self]; exact World.ownsMap.kept hd hg0 (by simp), agree_start _, hg0.but _⟩
  case round =>
    obtain ⟨left, cnt, Dout, hrg, hcs, hout, hM, hgw⟩ := hrel
    go_wp2_with (first
      | (at_next; refine wpList_next_ranges _ rfl _ rfl 9 keyed entR id (fun s : ByteArray => Value.agg #[.string s]) (fun key _ _ => ⟨key, rfl⟩) (fun v _ hv => entV hv) bs w.heap.size c.length _ _ _ rfl hrg ?_ ?_)
      | go_in)
    · intro hc0 hl0
      go_wp2
      go_end0
      have e := agree_end hM hl0 (hout.canon keyed) (contD_canon hc)
      subst e
      exact ⟨rfl, MapAt.of hout, chg_of_map hgw⟩
    · intro x s kl yd yp w1 cnt1 hkey hlx hv hat hrg1 hlt hg1 hs1 hen
      have hout1 := hout.kept hg1 (fun e => by have := Option.some.inj e; omega)
      clear hs1
      go_wp2_with (first
        | (at_mapUpdate; refine wpList_mapUpdate_own _ rfl _ _ _ 65 rfl 9 79 keyed Tryz.underlying65 entR bd _ _ rfl (hout1.alloc _) (by unfold maxLen; omega) _ _ _ rfl rfl hkey yd yp hv ?_; intro w2 hout2 hg2; go_frame)
        | go_in)
      have hrg2 := (hrg1.alloc (.cells #[.string s] 79)).kept hg2 (fun e => hne (Option.some.inj e).symm) (fun e => by have := Option.some.inj e; omega)
      go_roundw
      case rel =>
        exact ⟨_, cnt1, _, hrg2, by omega, hout2.mono (by omega), agree_step hM hout.isMap (keyed.key hkey) hat, ((hgw.andThen hg1 (fun j hj => .inl (by cases hj; exact Nat.le_refl _))).andThen (World.grownBy_alloc w1 _ none) (fun j hj => by cases hj)).andThen hg2 (fun j hj => .inr hj)⟩
      case measure => rw [hrg2.left_eq, hrg.left_eq]; exact hlt

set_option maxHeartbeats 2000000 in
theorem mcopy_nil (bd : Nat) (w : World) (hd : MapAt w bd []) :
    Calls Tryz.prog 50 #[.map (some bd), .map none] w fun e w' => e = .returned (.tuple #[]) ∧ MapAt w' bd [] ∧ Chg (fun k => k = bd) w w' := by
  have hrg := run_range_nilMap (P := Tryz.prog) w 65 _ _ Tryz.underlying65
  have hnx : ∀ ty, (Instr.next (.pointer (some ⟨w.heap.size, 0, none⟩)) false ty).run Tryz.prog (w.alloc (.mapIter none 0 #[] 0)) = _ := fun ty => run_next_nilMap _ ty 0 0 #[]
  have hR : Box (MapAt (w.alloc (.mapIter none 0 #[] 0)) bd [] ∧ Chg (fun k => k = bd) w (w.alloc (.mapIter none 0 #[] 0))) := ⟨⟨hd.chg ((Chg.refl (fun _ => False) _).alloc _) (fun h => h), (Chg.refl _ _).alloc _⟩⟩
  clear hd
  go_enter Tryz.func50, Tryz.ntmps50
  go_wp2
  refine wp_loop_rounds 1 ?_
  rw [rounds_succ]
  go_wp2
  go_end0
  exact ⟨rfl, hR.out⟩

/-- A content that a cell has committed: none yet, or a map. -/
def WasAt (w : World) (p : Option Nat) (c : Ct) : Prop := (p = none ∧ c = []) ∨ ∃ b, p = some b ∧ MapAt w b c
theorem WasAt.chg {S : Nat → Prop} {w w' : World} {p : Option Nat} {c : Ct} (h : WasAt w p c) (hc : Chg S w w') (hn : ∀ b, p = some b → ¬ S b) : WasAt w' p c := by
  rcases h with h | ⟨b, rfl, h⟩
  · exact .inl h
  · exact .inr ⟨b, rfl, h.chg hc (hn b rfl)⟩
theorem WasAt.lt {w : World} {p : Option Nat} {c : Ct} (h : WasAt w p c) (b : Nat) (hb : p = some b) : b < w.heap.size := by
  rcases h with ⟨rfl, _⟩ | ⟨b', rfl, h⟩
  · cases hb
  · cases hb; exact h.lt
theorem mcopy_opt (bd : Nat) (p : Option Nat) (c : Ct) (w : World) (hd : MapAt w bd []) (hs : WasAt w p c) (hne : p ≠ some bd) (hc : c.Pairwise (fun p q => p.1 < q.1)) (hl : c.length ≤ 1000000) :
    Calls Tryz.prog 50 #[.map (some bd), .map p] w fun e w' => e = .returned (.tuple #[]) ∧ MapAt w' bd c ∧ Chg (fun k => k = bd) w w' := by
  rcases hs with ⟨rfl, rfl⟩ | ⟨b, rfl, h⟩
  · exact mcopy_nil bd w hd
  · exact mcopy_any bd b c w hd h (fun e => hne (by rw [e])) hc hl

theorem mclone_any (b : Nat) (c : Ct) (w : World) (h : MapAt w b c) :
    Calls Tryz.prog 36 #[.map (some b)] w fun e w' => e = .returned (.map (some w.heap.size)) ∧ MapAt w' w.heap.size c ∧ Below w.heap.size w w' := by
  have hcon := AnyW.maps_Clone_owns Tryz.cloneL 9 entR b c.length (contD c) w h
  change Calls Tryz.prog 36 _ _ _ at hcon
  exact hcon.mono fun e w' ⟨he, h1, _, h3⟩ => ⟨he, h1, h3⟩

/-! ### The names, rising -/
theorem sortsL (m : Nat) : AnyZ.SortsIn Tryz.prog Tryz.sortedL_ren Fence.wide m :=
  ⟨fun blk off cap ss W hH hblk hsz => callsIn_wide.2 (AnyM.slices_Sort_string Tryz.sortL blk off cap ss W hH hblk hsz),
   fun p cap W => callsIn_wide.2 (AnyM.slices_Sort_string_none Tryz.sortL p cap W)⟩
theorem keys_call (mb : Option Nat) (W : World) : CallsIn Fence.wide 5 Tryz.prog 80 #[.map mb] W fun e w' => e = .returned (.func (.func 102) #[] #[.pointer (some ⟨W.heap.size, 0, none⟩)]) ∧ w' = W.alloc (.cells #[.map mb] 65) :=
  AnyZ.keys_in Tryz.keysL Fence.wide 5 trivial rfl mb W
set_option maxHeartbeats 1000000 in
theorem sorted_call (b nn : Nat) (D0 : DataW Unit) (R : Value → Option (DataW Unit × List MemPlace)) (w : World) (hown : w.ownsMap Tryz.prog 9 R b nn D0) (hmax : Maps.size D0 ≤ maxLen) (hbytes : Maps.size D0 * 16 ≤ 140737488355328) :
    CallsIn Fence.wide 5 Tryz.prog 79 #[.func (.func 102) #[] #[.pointer (some ⟨w.heap.size, 0, none⟩)]] (w.alloc (.cells #[.map (some b)] 65)) fun e w' => ∃ (v : Value) (ss : List (List UInt8)), e = .returned v ∧ ss.Perm (strKeys D0) ∧
      w'.ownsRow (w.alloc (.cells #[.map (some b)] 65)).heap.size 9 1 v ss.length ((ss.mergeSort (fun x y => decide (x ≤ y))).map encStr) ∧ (v = .slice none 0 0 ↔ ss = []) ∧ Below (w.alloc (.cells #[.map (some b)] 65)).heap.size (w.alloc (.cells #[.map (some b)] 65)) w' := by
  have hbl := hown.lt
  have hseq : SeqGives Fence.wide 2 Tryz.prog 102 #[.pointer (some ⟨w.heap.size, 0, none⟩)] encStr (fun ss => ss.Perm (strKeys D0)) (Maps.size D0) (w.alloc (.cells #[.map (some b)] 65)) :=
    AnyZ.keys_gives (ρ := Tryz.keysL_ren) { Tryz.keysL with } Fence.wide _ trivial rfl (by omega) w.heap.size b nn D0 _ (by simp) (by simp) (by
      obtain ⟨es, clock, hb, Ft, hs, hD⟩ := hown
      exact ⟨es, clock, (Below.heap_alloc _ _ b hbl).trans hb, Ft, hs, hD⟩)
  exact AnyZ.sorted_in Tryz.sortedL Fence.wide 5 trivial trivial trivial trivial rfl (by omega) (sortsL _) (enters_of Tryz.func101 (by kernel_rfl) rfl) 102 #[.pointer (some ⟨w.heap.size, 0, none⟩)] trivial (enters_of Tryz.func102 (by kernel_rfl) rfl) _ _ hmax hbytes _ hseq
def nameV (p : Bs × Bs) : Value := .string (btx p.1)
/-- A new slice of the names. -/
def NamesIs (c : Ct) (w : World) (e : Ending) (w' : World) : Prop :=
  ∃ v, e = .returned v ∧ Row w' 9 1 v c.length (c.map nameV) ∧ (∀ k, v.ownBlock = some k → w.heap.size ≤ k) ∧ Below w.heap.size w w'
set_option maxHeartbeats 1000000 in
theorem names_walk (b nn : Nat) (D0 : DataW Unit) (R : Value → Option (DataW Unit × List MemPlace)) (w : World) (hown : w.ownsMap Tryz.prog 9 R b nn D0) (hmax : Maps.size D0 ≤ maxLen) (hbytes : Maps.size D0 * 16 ≤ 140737488355328) :
    Calls Tryz.prog 57 #[.map (some b)] w fun e w' => ∃ (v : Value) (ss : List (List UInt8)), e = .returned v ∧ ss.Perm (strKeys D0) ∧
      w'.ownsRow w.heap.size 9 1 v ss.length ((ss.mergeSort (fun x y => decide (x ≤ y))).map encStr) ∧ (v = .slice none 0 0 ↔ ss = []) ∧ Below w.heap.size w w' := by
  refine (callsIn_wide (n := 6)).1 ?_
  have hfK : Fence.wide.fn 80 := trivial
  have hfS : Fence.wide.fn 79 := trivial
  refine callsIn_of_wp Tryz.func57 rfl trivial ?_ rfl
  simp only [Tryz.ntmps57, List.size_toArray, List.length_cons, List.length_nil, Nat.reduceAdd, Nat.reduceSub, Array.replicate_succ, Array.replicate_zero, List.push_toArray, List.append_toArray, List.nil_append, List.cons_append]
  gi_wp2_with (first
    | (gi_at_call 80; refine (keys_call _ _).mono ?_; rintro e w' ⟨rfl, rfl⟩)
    | (gi_at_call 79; refine (sorted_call b nn D0 R w hown hmax hbytes).mono ?_; rintro e w' ⟨v, ss, rfl, hS, hrow, hnil, hb⟩))
  go_ret
  exact ⟨v, ss, rfl, hS, ownsRow_base_a hrow (by simp), hnil, ((Below.refl _ w).alloc (Nat.le_refl _) _).trans (hb.mono (by simp))⟩
theorem names_any (b : Nat) (c : Ct) (w : World) (h : MapAt w b c) (hc : c.Pairwise (fun p q => p.1 < q.1)) (hl : c.length ≤ 1000000) :
    Calls Tryz.prog 57 #[.map (some b)] w (NamesIs c w) := by
  refine (names_walk b c.length (contD c) entR w h (by rw [contD_size]; unfold maxLen; omega) (by rw [contD_size]; omega)).mono ?_
  rintro e w' ⟨v, ss, rfl, hp, hrow, _, hb⟩
  have hlen : ss.length = c.length := by rw [hp.length_eq, contD_keys, List.length_map]
  rw [sorted_names hc hp, hlen, List.map_map] at hrow
  exact ⟨v, rfl, ownsRow_base_a hrow (Nat.zero_le _), fun k hk => (World.ownsRow.lt hrow k hk).1, hb⟩
end Go.Proofs.YtoaipjpbioaneaaGreat
