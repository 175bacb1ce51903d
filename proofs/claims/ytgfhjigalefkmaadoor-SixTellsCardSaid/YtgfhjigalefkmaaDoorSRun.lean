/-
  Run(p), and the document's.
-/
import Derived.Test.YtgfhjigalefkmaaDoorSArr
import Derived.Deep.LoopGhost
import Derived.WalkMore
namespace Go.Proofs.YtgfhjigalefkmaaDoor.Six
open Go.RowKit
set_option linter.unusedSimpArgs false
set_option linter.unusedVariables false
theorem zr_le (l : List Int) : zr l ≤ l.length := by
  induction l with
  | nil => simp [zr]
  | cons x r ih => unfold zr; split <;> simp <;> omega
theorem zr_step (l : List Int) (j : Nat) (hj : j ≤ zr l) (hl : j < l.length) : (l[j] = 0 → j + 1 ≤ zr l) ∧ (l[j] ≠ 0 → zr l = j) := by
  induction l generalizing j with
  | nil => simp at hl
  | cons x r ih =>
    cases j with
    | zero =>
      simp only [List.getElem_cons_zero, zr]
      by_cases h : x = 0
      · rw [if_pos h]; exact ⟨fun _ => by omega, fun e => absurd h e⟩
      · rw [if_neg h]; exact ⟨fun e => absurd e h, fun _ => rfl⟩
    | succ j =>
      by_cases h : x = 0
      · simp only [zr, if_pos h] at hj ⊢
        have := ih j (by omega) (by simpa using hl)
        simp only [List.getElem_cons_succ]
        exact ⟨fun e => by have := this.1 e; omega, fun e => by have := this.2 e; omega⟩
      · simp only [zr, if_neg h] at hj
        omega
theorem zr_drop (p : List Int) (h8 : p.length = 8) (k j : Nat) (hj : j ≤ zr (p.drop k)) (hk : k + j < 8) (z : Int) (hz : ∀ h : k + j < p.length, p[k + j] = z) : (z = 0 → j + 1 ≤ zr (p.drop k)) ∧ (z ≠ 0 → zr (p.drop k) = j) := by
  have := zr_step (p.drop k) j hj (by simp; omega)
  rw [List.getElem_drop, hz (by omega)] at this
  exact this
theorem zr_room (p : List Int) (h8 : p.length = 8) (k : Nat) : zr (p.drop k) ≤ 8 - k := by
  have := zr_le (p.drop k)
  simp [h8] at this
  exact this
theorem better_next (s : Nat × Nat) (k j : Nat) : (if (better s k j).2 < j + 1 then (k, j + 1) else better s k j) = better s k (j + 1) := by
  unfold better
  by_cases h : s.2 < j
  · rw [if_pos h, if_pos (by simp), if_pos (by omega)]
  · rw [if_neg h]
theorem better_zero (s : Nat × Nat) (k : Nat) : better s k 0 = s := by unfold better; rw [if_neg (by omega)]
theorem st_pos (p : List Int) (i : Nat) : 1 ≤ (st p i).2 := by
  induction i with
  | zero => exact Nat.le_refl _
  | succ i ih => unfold st better; split <;> (try simp only) <;> omega
theorem st_le (p : List Int) (h8 : p.length = 8) (i : Nat) (hi : i ≤ 8) : (st p i).1 ≤ 8 ∧ (st p i).2 ≤ 8 := by
  induction i with
  | zero => exact ⟨by simp [st], by simp [st]⟩
  | succ i ih =>
    have := ih (by omega)
    have h2 := zr_room p h8 i
    unfold st better
    split <;> (try simp only) <;> omega

set_option maxRecDepth 100000 in
set_option maxHeartbeats 4000000 in
theorem run_any (p : List Int) (h8 : p.length = 8) (w : World) : Calls Tryd.prog 12 #[.agg (arr p)] w fun e w' => e = .returned (.tuple #[.int .i64 (runP p).1, .int .i64 (runP p).2]) ∧ Below w.heap.size w w' := by
  have HB := Lib.hid (show Below w.heap.size w (w.alloc (.cells (arr p) 22)) from (Below.refl _ w).alloc (Nat.le_refl _) _)
  have HR := Lib.hid (RowAt.new w p)
  have H8 := Lib.hid h8
  clear h8
  go_enter Tryd.func12, Tryd.ntmps12
  go_wp2
  generalize w.alloc (.cells (arr p) 22) = W at HB HR ⊢
  go_step3
  go_wp2
  go_step3
  go_wp2
  go_loopg [4, 5, 6, 7, 8] 8 (fun g a l _ _ i wr => ∃ k A L : Nat, k + g = 8 ∧ i = .int .i64 k ∧ a = .int .i64 A ∧ l = .int .i64 L ∧ Hid (st p k = (A, L)) ∧ wr = W)
  case atStart => exact ⟨0, 0, 1, rfl, rfl, rfl, rfl, Lib.hid rfl, rfl⟩
  case round =>
    obtain ⟨k, A, L, hk, rfl, rfl, rfl, HS, rfl⟩ := hrel
    by_cases hlt : k < 8
    · have t1 : (k : Int) < 8 := by omega
      obtain ⟨g, rfl⟩ : ∃ g, gk = g + 1 := ⟨gk - 1, by omega⟩
      go_wp2
      go_loopg [4, 5, 7] (8 - k) (fun g a l n wr2 => ∃ j A' L' : Nat, j + g = 8 - k ∧ n = .int .i64 ((j : Int) + 1) ∧ a = .int .i64 A' ∧ l = .int .i64 L' ∧ Hid (better (st p k) k j = (A', L') ∧ j ≤ zr (p.drop k)) ∧ wr2 = wr)
      case atStart => exact ⟨0, A, L, by omega, rfl, rfl, rfl, Lib.hid ⟨by rw [better_zero, HS.out], Nat.zero_le _⟩, rfl⟩
      case round =>
        obtain ⟨j, A', L', hj, rfl, rfl, rfl, HI, rfl⟩ := hrel
        have hz := zr_room p H8.out k
        by_cases hjk : k + j < 8
        · have t2 : (k : Int) + ((j : Int) + 1) ≤ 8 := by omega
          have hkp : k + j < p.length := by have := H8.out; omega
          have hc := HR.out.cell (k + j) hkp
          have e1 : (k : Int) + ((j : Int) + 1) - 1 = ((k + j : Nat) : Int) := by omega
          obtain ⟨z, hzz⟩ : ∃ z, p[k + j] = z := ⟨_, rfl⟩
          rw [hzz] at hc
          have HZ := Lib.hid (zr_drop p H8.out k j HI.out.2 hjk z (fun _ => hzz))
          clear hzz hkp hz
          by_cases h0 : z = 0
          · subst h0
            have HZ1 := Lib.hid (HZ.out.1 rfl)
            clear HZ
            by_cases hL : L' < j + 1
            · have t3 : decide ((L' : Int) < (j : Int) + 1) = true := decide_eq_true (by omega)
              go_wp2
              go_roundg (gk - 1)
              case measure => omega
              case rel =>
                refine ⟨j + 1, k, j + 1, by omega, by go_num, by go_num, by go_num, Lib.hid ⟨?_, HZ1.out⟩, rfl⟩
                rw [← better_next, HI.out.1, if_pos hL]
            · have t3 : decide ((L' : Int) < (j : Int) + 1) = false := decide_eq_false (by omega)
              go_wp2
              go_roundg (gk - 1)
              case measure => omega
              case rel =>
                refine ⟨j + 1, A', L', by omega, by go_num, by go_num, by go_num, Lib.hid ⟨?_, HZ1.out⟩, rfl⟩
                rw [← better_next, HI.out.1, if_neg hL]
          · have t4 : (z != 0) = true := by simpa using h0
            have hzr := Lib.hid (HZ.out.2 h0)
            clear h0
            go_wp2
            go_roundg g
            case measure => omega
            case rel =>
              refine ⟨k + 1, A', L', by omega, by go_num, rfl, rfl, Lib.hid ?_, rfl⟩
              show better (st p k) k (zr (p.drop k)) = _
              rw [hzr.out]
              exact HI.out.1
        · have t2 : decide ((k : Int) + ((j : Int) + 1) ≤ 8) = false := decide_eq_false (by omega)
          have hzr := Lib.hid (show zr (p.drop k) = j by have := HI.out.2; omega)
          clear hz
          go_wp2
          go_roundg g
          case measure => omega
          case rel =>
            refine ⟨k + 1, A', L', by omega, by go_num, rfl, rfl, Lib.hid ?_, rfl⟩
            show better (st p k) k (zr (p.drop k)) = _
            rw [hzr.out]
            exact HI.out.1
    · obtain rfl : k = 8 := by omega
      have hL : L = 1 ∨ 2 ≤ L := by
        have := st_pos p 8
        rw [HS.out] at this
        simp at this
        omega
      have HP := Lib.hid (show runP p = if L = 1 then (0, 0) else (A, L) by unfold runP; rw [HS.out])
      rcases hL with rfl | hL
      · go_wp2
        try rw [Exit.noGoto_ret]
        go_ret2
        rw [HP.out]
        exact ⟨rfl, HB.out⟩
      · have t2 : ((L : Int) == 1) = false := beq_false_of_ne (by omega)
        go_wp2
        try rw [Exit.noGoto_ret]
        go_ret2
        rw [HP.out, if_neg (by omega)]
        exact ⟨rfl, HB.out⟩

/-- As the document's loop has it. -/
def stR (p : List Int) (i : Nat) : Nat × Nat := if (st p i).2 = 1 then (0, 0) else st p i
theorem stR_next (p : List Int) (k A L n : Nat) (h : stR p k = (A, L)) (hn : zr (p.drop k) = n) : stR p (k + 1) = if L < n ∧ 1 < n then (k, n) else (A, L) := by
  have h1 := st_pos p k
  unfold stR at h ⊢
  unfold st better
  rw [hn]
  generalize st p k = s at h h1
  obtain ⟨a, b⟩ := s
  simp only at h h1 ⊢
  by_cases e : b = 1
  · rw [if_pos e] at h
    cases h
    by_cases e2 : b < n
    · rw [if_pos e2, if_neg (by simp; omega), if_pos (by omega)]
    · rw [if_neg e2, if_pos e, if_neg (by omega)]
  · rw [if_neg e, Prod.mk.injEq] at h
    obtain ⟨rfl, rfl⟩ := h
    by_cases e2 : b < n
    · rw [if_pos e2, if_neg (by simp; omega), if_pos (by omega)]
    · rw [if_neg e2, if_neg e, if_neg (by omega)]
theorem stR_le (p : List Int) (h8 : p.length = 8) (k : Nat) (hk : k ≤ 8) (A L : Nat) (h : stR p k = (A, L)) : A ≤ 8 ∧ L ≤ 8 := by
  have := st_le p h8 k hk
  unfold stR at h
  split at h
  · cases h; omega
  · rw [h] at this; exact this
set_option maxRecDepth 100000 in
set_option maxHeartbeats 4000000 in
theorem refRun_any (p : List Int) (h8 : p.length = 8) (w : World) : Calls Tryd.prog 13 #[.agg (arr p)] w fun e w' => e = .returned (.tuple #[.int .i64 (runP p).1, .int .i64 (runP p).2]) ∧ Below w.heap.size w w' := by
  have HB := Lib.hid (show Below w.heap.size w (w.alloc (.cells (arr p) 22)) from (Below.refl _ w).alloc (Nat.le_refl _) _)
  have HR := Lib.hid (RowAt.new w p)
  have H8 := Lib.hid h8
  clear h8
  go_enter Tryd.func13, Tryd.ntmps13
  go_wp2
  generalize w.alloc (.cells (arr p) 22) = W at HB HR ⊢
  go_loopg [4, 5, 6, 7] 8 (fun g a l i _ wr => ∃ k A L : Nat, k + g = 8 ∧ i = .int .i64 k ∧ a = .int .i64 A ∧ l = .int .i64 L ∧ Hid (stR p k = (A, L)) ∧ wr = W)
  case atStart => exact ⟨0, 0, 0, rfl, rfl, rfl, rfl, Lib.hid rfl, rfl⟩
  case round =>
    obtain ⟨k, A, L, hk, rfl, rfl, rfl, HS, rfl⟩ := hrel
    by_cases hlt : k < 8
    · have t1 : (k : Int) < 8 := by omega
      obtain ⟨g, rfl⟩ : ∃ g, gk = g + 1 := ⟨gk - 1, by omega⟩
      go_wp2
      go_loopg [7] (8 - k) (fun g n wr2 => ∃ j : Nat, j + g = 8 - k ∧ n = .int .i64 j ∧ Hid (j ≤ zr (p.drop k)) ∧ wr2 = wr)
      case atStart => exact ⟨0, by omega, rfl, Lib.hid (Nat.zero_le _), rfl⟩
      case round =>
        obtain ⟨j, hj, rfl, HI, rfl⟩ := hrel
        have hz := zr_room p H8.out k
        have hend : (k + j < 8 ∧ ∃ z, p[k + j]? = some z ∧ z = 0 ∧ j + 1 ≤ zr (p.drop k)) ∨ (k + j < 8 ∧ ∃ z, p[k + j]? = some z ∧ z ≠ 0 ∧ zr (p.drop k) = j) ∨ (¬ k + j < 8 ∧ zr (p.drop k) = j) := by
          by_cases hjk : k + j < 8
          · have hkp : k + j < p.length := by have := H8.out; omega
            have hzd := zr_drop p H8.out k j HI.out hjk p[k + j] (fun _ => rfl)
            by_cases h0 : p[k + j] = 0
            · exact .inl ⟨hjk, _, List.getElem?_eq_getElem hkp, h0, hzd.1 h0⟩
            · exact .inr (.inl ⟨hjk, _, List.getElem?_eq_getElem hkp, h0, hzd.2 h0⟩)
          · exact .inr (.inr ⟨hjk, by have := HI.out; omega⟩)
        clear hz
        rcases hend with ⟨hjk, z, hz, rfl, hzr⟩ | hend
        · have t2 : decide ((k : Int) + (j : Int) < 8) = true := decide_eq_true (by omega)
          have hc : wr.cell? ⟨w.heap.size, k + j, none⟩ = some (.int .i64 0) := by
            obtain ⟨h1, h2⟩ := List.getElem?_eq_some_iff.1 hz
            rw [HR.out.cell _ h1, h2]
          have HZ := Lib.hid hzr
          clear hz hzr
          go_wp2
          go_roundg (gk - 1)
          case measure => omega
          case rel => exact ⟨j + 1, by omega, by go_num, HZ, rfl⟩
        · have hzr : zr (p.drop k) = j := by rcases hend with ⟨_, _, _, _, h⟩ | ⟨_, h⟩ <;> exact h
          have HN := Lib.hid (stR_next p k A L j HS.out hzr)
          have hle := stR_le p H8.out k (by omega) A L HS.out
          have hend2 : (∃ z : Int, (k : Int) + (j : Int) < 8 ∧ decide ((k : Int) + (j : Int) < 8) = true ∧ wr.cell? ⟨w.heap.size, k + j, none⟩ = some (.int .i64 z) ∧ (z == 0) = false) ∨ decide ((k : Int) + (j : Int) < 8) = false := by
            rcases hend with ⟨h1, z, hz, h0, _⟩ | ⟨h1, _⟩
            · obtain ⟨h2, h3⟩ := List.getElem?_eq_some_iff.1 hz
              exact .inl ⟨z, by omega, decide_eq_true (by omega), by rw [HR.out.cell _ h2, h3], beq_false_of_ne h0⟩
            · exact .inr (decide_eq_false (by omega))
          have hcond : (decide (L < j) = true ∧ decide (1 < (j : Int)) = true ∧ Hid (L < j ∧ 1 < j)) ∨ (decide (L < j) = false ∧ Hid (¬ (L < j ∧ 1 < j))) ∨ (decide (L < j) = true ∧ decide (1 < (j : Int)) = false ∧ Hid (¬ (L < j ∧ 1 < j))) := by
            by_cases h1 : L < j
            · by_cases h2 : 1 < j
              · exact .inl ⟨decide_eq_true (by omega), decide_eq_true (by omega), ⟨h1, h2⟩⟩
              · exact .inr (.inr ⟨decide_eq_true (by omega), decide_eq_false (by omega), fun h => h2 h.2⟩)
            · exact .inr (.inl ⟨decide_eq_false (by omega), fun h => h1 h.1⟩)
          clear hend hzr
          rcases hend2 with ⟨z, t0, t2, hc, t3⟩ | t2
          all_goals
            rcases hcond with ⟨d1, d2, d3⟩ | ⟨d1, d3⟩ | ⟨d1, d2, d3⟩
            · go_wp2
              go_roundg g
              case measure => omega
              case rel => exact ⟨k + 1, k, j, by omega, by go_num, by go_num, by go_num, Lib.hid (by rw [HN.out, if_pos d3.out]), rfl⟩
            · go_wp2
              go_roundg g
              case measure => omega
              case rel => exact ⟨k + 1, A, L, by omega, by go_num, rfl, rfl, Lib.hid (by rw [HN.out, if_neg d3.out]), rfl⟩
            · go_wp2
              go_roundg g
              case measure => omega
              case rel => exact ⟨k + 1, A, L, by omega, by go_num, rfl, rfl, Lib.hid (by rw [HN.out, if_neg d3.out]), rfl⟩
    · obtain rfl : k = 8 := by omega
      have HP := Lib.hid (show runP p = (A, L) from HS.out)
      go_wp2
      go_ret2
      rw [HP.out]
      exact ⟨rfl, HB.out⟩
end Go.Proofs.YtgfhjigalefkmaaDoor.Six
