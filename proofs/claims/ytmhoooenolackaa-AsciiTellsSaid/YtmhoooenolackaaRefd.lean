/-
  The document's Lower, and Same.
-/
import Derived.Test.YtmhoooenolackaaRefc
namespace Go.Proofs.Ytmhoooenolackaa
open Go.RowKit
set_option linter.unusedSimpArgs false
set_option linter.unusedVariables false

/-- Block g holds the bytes l, and they may be written. -/
def Held (W : World) (g : Nat) (l : List UInt8) : Prop := ∀ j (h : j < l.length), W.cell? ⟨g, j, none⟩ = some (.int .u8 (l[j].toNat : Int)) ∧ W.frozen? ⟨g, j, none⟩ = false

theorem held_set {W : World} {g : Nat} {l : List UInt8} (h : Held W g l) (k : Nat) (hk : k < l.length) (x : UInt8) : Held (W.setCell ⟨g, k, none⟩ (.int .u8 (x.toNat : Int))) g (l.set k x) := by
  intro j hj
  have hj' : j < l.length := by simpa using hj
  refine ⟨?_, by rw [World.frozen?_setCell]; exact (h j hj').2⟩
  by_cases e : j = k
  · subst e
    rw [World.cell?_setCell_same (h := (h j hj').1)]
    simp
  · rw [World.cell?_setCell_other (h := fun h => e (by cases h; rfl)), (h j hj').1]
    rw [List.getElem_set_ne (by omega)]

/-- The first k lowered. -/
def mixed (l : List UInt8) (k : Nat) : List UInt8 := lower (l.take k) ++ l.drop k
theorem mixed_length (l : List UInt8) (k : Nat) (h : k ≤ l.length) : (mixed l k).length = l.length := by
  simp [mixed, lower]; omega
theorem mixed_get? (l : List UInt8) (k : Nat) (h : k < l.length) : (mixed l k)[k]? = some l[k] := by
  have hl : (lower (l.take k)).length = k := by simp [lower]; omega
  unfold mixed
  rw [List.getElem?_append_right (by omega), hl, Nat.sub_self, List.drop_eq_getElem_cons h]
  rfl
theorem mixed_get (l : List UInt8) (k : Nat) (h : k < l.length) (h' : k < (mixed l k).length) : (mixed l k)[k] = l[k] :=
  Option.some.inj ((List.getElem?_eq_getElem h').symm.trans (mixed_get? l k h))
theorem mixed_set (l : List UInt8) (k : Nat) (h : k < l.length) : (mixed l k).set k (lowB l[k]) = mixed l (k + 1) := by
  unfold mixed
  have hl : (lower (l.take k)).length = k := by simp [lower]; omega
  rw [List.set_append_right _ _ (by omega), hl, Nat.sub_self, List.drop_eq_getElem_cons h, List.set_cons_zero, List.take_succ_eq_append_getElem h, lower_snoc, List.append_assoc]
  rfl
theorem mixed_keep (l : List UInt8) (k : Nat) (h : k < l.length) (hc : lowB l[k] = l[k]) : mixed l k = mixed l (k + 1) := by
  unfold mixed
  rw [List.drop_eq_getElem_cons h, List.take_succ_eq_append_getElem h, lower_snoc, List.append_assoc, hc]
  rfl
theorem mixed_zero (l : List UInt8) : mixed l 0 = l := by simp [mixed, lower]
theorem mixed_all (l : List UInt8) : mixed l l.length = lower l := by simp [mixed]

theorem held_new (w : World) (s : ByteArray) (cap : Nat) : Held (w.alloc (.cells (bytesRow s cap) 5 ((bytesRow s cap).size, (bytesRow s cap).size + 1))) w.heap.size s.data.toList := by
  intro j hj
  have hj' : j < s.data.size := by simpa using hj
  refine ⟨?_, ?_⟩
  · rw [World.cell?_alloc_mark, bytesRow_at s cap j hj']
    simp
  · rw [World.frozen?_alloc_mark]
    have : (bytesRow s cap).size = s.data.size + (cap - s.size) := by simp [bytesRow]
    simp
    omega

set_option maxRecDepth 100000 in
set_option maxHeartbeats 2000000 in
theorem refLower_any (s : ByteArray) (hs : s.size ≤ 600) (w : World) :
    Calls Try.prog 18 #[.string s] w fun e w' => e = .returned (.string ⟨(lower s.data.toList).toArray⟩) ∧ Below w.heap.size w w' := by
  have hcv := run_bytes_of_string w 9 30 5 s Try.underlying9 Try.underlying30 Try.underlying5 (P := Try.prog)
  generalize grownCap w s.size 0 5 = cap at hcv
  go_enter Try.func18, Try.ntmps18
  go_wp2
  have hB0 : Below w.heap.size w (w.alloc (.cells (bytesRow s cap) 5 ((bytesRow s cap).size, (bytesRow s cap).size + 1))).drew := ((Below.refl _ w).alloc (Nat.le_refl _) _).drew
  have hH0 : Held (w.alloc (.cells (bytesRow s cap) 5 ((bytesRow s cap).size, (bytesRow s cap).size + 1))).drew w.heap.size (mixed s.data.toList 0) := by rw [mixed_zero]; exact held_new w s cap
  clear hcv
  have hsz : s.data.toList.length = s.size := rfl
  have HSZ := Lib.hid hsz
  clear hsz
  go_loopw [4] (fun i wr => ∃ k : Nat, k ≤ s.size ∧ i = .int .i64 k ∧ Held wr w.heap.size (mixed s.data.toList k) ∧ Below w.heap.size w wr) (fun i _ => s.size - (intOf i).toNat)
  case atStart => exact ⟨0, Nat.zero_le _, rfl, hH0, hB0⟩
  case round =>
    clear hH0 hB0
    obtain ⟨k, hk, rfl, hH, hw⟩ := hrel
    have HH := Lib.hid hH
    clear hH
    by_cases hlt : k < s.size
    · have hkl : k < s.data.toList.length := hlt
      have hml : k < (mixed s.data.toList k).length := by rw [mixed_length _ _ (Nat.le_of_lt hkl)]; exact hkl
      obtain ⟨hc0, hf⟩ := HH.out k hml
      rw [mixed_get _ _ hkl] at hc0
      have hc : wr.cell? ⟨w.heap.size, k, none⟩ = some (.int .u8 ((s[k]'hlt).toNat : Int)) := hc0
      clear hc0
      have t1 : (k : Int) < s.size := by omega
      clear hkl hml
      cases hcap : capB s[k].toNat
      · have hv := Lib.hid (mixed_keep s.data.toList k hlt (by show lowB s[k] = s[k]; unfold lowB; rw [hcap]; rfl))
        have h2 : decide (65 ≤ (s[k].toNat : Int)) = false ∨ (decide (65 ≤ (s[k].toNat : Int)) = true ∧ decide ((s[k].toNat : Int) ≤ 90) = false) := by
          simp [capB] at hcap
          simp
          omega
        clear hcap
        rcases h2 with d1 | ⟨d1, d2⟩
        all_goals
          go_wp2
          go_roundw
          case rel => exact ⟨k + 1, by omega, by go_num, by rw [← hv.out]; exact HH.out, hw⟩
          case measure => simp [intOf]; omega
      · obtain ⟨h65, h90⟩ := capB_iff hcap
        have d1 : decide (65 ≤ (s[k].toNat : Int)) = true := by simpa using h65
        have d2 : decide ((s[k].toNat : Int) ≤ 90) = true := by simpa using h90
        have hlow := Lib.hid (show ((lowB s[k]).toNat : Int) = (s[k].toNat : Int) + 32 by rw [lowB_toNat]; unfold lowI; rw [if_pos ⟨h65, h90⟩])
        clear hcap
        go_wp2
        go_roundw
        case rel =>
          refine ⟨k + 1, by omega, by go_num, ?_, hw.setCell (p := ⟨w.heap.size, k, none⟩) (Nat.le_refl _) _⟩
          have hml : k < (mixed s.data.toList k).length := by rw [mixed_length _ _ (Nat.le_of_lt hlt)]; exact hlt
          have h3 := held_set HH.out k hml (lowB s[k])
          rw [hlow.out] at h3
          have h4 := mixed_set s.data.toList k hlt
          rw [← h4]
          exact h3
        case measure => simp [intOf]; omega
    · obtain rfl : k = s.size := by omega
      have hH := HH.out
      rw [← HSZ.out, mixed_all] at hH
      have hll : (lower s.data.toList).length = s.size := List.length_map _
      have hcv := run_convert_bytes_back (P := Try.prog) wr 30 9 5 ⟨w.heap.size, 0, none⟩ cap (lower s.data.toList) Try.underlying30 Try.underlying5 Try.underlying9 (fun j hj => by
        have e : (⟨w.heap.size, 0, none⟩ : Addr).add j = ⟨w.heap.size, j, none⟩ := by unfold Addr.add; split <;> simp_all
        rw [e]; exact (hH j hj).1)
      rw [hll] at hcv
      clear hH hll
      go_wp2
      go_ret
      exact ⟨rfl, hw⟩

set_option maxHeartbeats 400000 in
theorem refSame_any (s t : ByteArray) (hs : s.size ≤ 600) (ht : t.size ≤ 600) (w : World) :
    Calls Try.prog 12 #[.string s, .string t] w fun e W' => e = .returned (.bool (lower s.data.toList == lower t.data.toList)) ∧ Below w.heap.size w W' := by
  go_enter Try.func12, Try.ntmps12
  go_wp2_with fail
  refine (refLower_any s hs _).mono ?_
  rintro e w1 ⟨rfl, hB1⟩
  go_wp2_with fail
  refine (refLower_any t ht _).mono ?_
  rintro e w2 ⟨rfl, hB2⟩
  have hB3 := Lib.hid (below2 hB1 hB2)
  go_wp2
  go_ret
  exact ⟨rfl, hB3.out⟩

end Go.Proofs.Ytmhoooenolackaa
