/-
  Arrays of eight ints compared; May(p).
-/
import Derived.Test.YtgfhjigalefkmaaDoorSArr
import Derived.ChangeKeysEq
namespace Go.Proofs.YtgfhjigalefkmaaDoor.Six
open Go.RowKit
set_option linter.unusedSimpArgs false
set_option linter.unusedVariables false
theorem part3 (l : List Int) (i : Nat) (h : i < l.length) (w : World) : (part 3 (arr l) (i * 1)).run Tryd.prog w = .ok (.int .i64 l[i]) w := by
  have e : (arr l)[i]? = some (.int .i64 l[i]) := arr_at l i h
  have hs : (sizeOf 3).run Tryd.prog w = .ok 1 w := by kernel_rfl
  have ha : (isAgg 3).run Tryd.prog w = .ok false w := by kernel_rfl
  simp [part, Sem.run_bind, ha, hs, e]
theorem items3 (d : Nat) (p q : List Int) (hl : p.length = q.length) (is : List Nat) (h : ∀ i ∈ is, i < p.length) (w : World) : (Op.eqItems (d + 1) 3 1 (arr p) (arr q) is).run Tryd.prog w = .ok (is.all fun i => p.getD i 0 == q.getD i 0) w := by
  induction is with
  | nil => simp [Op.eqItems]
  | cons i is ih =>
    have hi := h i (by simp)
    have hq : i < q.length := by omega
    simp only [Op.eqItems, Sem.run_bind, part3 p i hi, part3 q i hq, Result.andThen_ok, run_equalIn_int w d 3 .i64 .i64 _ _ Tryd.underlying3, List.all_cons, List.getD_eq_getElem?_getD, List.getElem?_eq_getElem hi, List.getElem?_eq_getElem hq, Option.getD_some]
    cases p[i] == q[i]
    · simp
    · simp [ih fun j hj => h j (List.mem_cons_of_mem _ hj)]
theorem eq22 (p q : List Int) (hp : p.length = 8) (hq : q.length = 8) (b : Bool) (hb : decide (p = q) = b) (w : World) : (Op.equalIn 10000 22 (.agg (arr p)) (.agg (arr q))).run Tryd.prog w = .ok b w := by
  obtain ⟨i, hi⟩ : ∃ i, Tryd.prog.info? 3 = some i := by
    cases e : Tryd.prog.info? 3 with
    | some i => exact ⟨i, rfl⟩
    | none =>
      have : (Tryd.prog.info? 3).isSome = true := by kernel_rfl
      rw [e] at this
      cases this
  rw [show (10000 : Nat) = 9999 + 1 from rfl, run_equalIn_array w 9999 (arr p) (arr q) Tryd.underlying22 hi, show Tryd.prog.cellsOf 3 = 1 by kernel_rfl, items3 9998 p q (by omega) _ (by intro j hj; simp at hj; omega), ← hb]
  congr 1
  match p, hp, q, hq with
  | [a0, a1, a2, a3, a4, a5, a6, a7], _, [b0, b1, b2, b3, b4, b5, b6, b7], _ => simp [List.range, List.range.loop]; rfl

theorem low_may (p : List Int) (h8 : p.length = 8) : decide (p = low p) = mayP p := by
  rw [Bool.eq_iff_iff, decide_eq_true_iff, may_iff]
  constructor
  · intro h z hz
    rw [h] at hz
    obtain ⟨y, _, rfl⟩ := List.mem_map.1 hz
    omega
  · intro h
    unfold low
    conv => lhs; rw [← List.map_id p]
    refine List.map_congr_left fun z hz => ?_
    have := h z hz
    simp only [id]
    omega
theorem low_len (p : List Int) : (low p).length = p.length := by simp [low]
/-- The eight cells. -/
theorem RowAt.eight {w : World} {g : Nat} {a0 a1 a2 a3 a4 a5 a6 a7 : Int} (h : RowAt w g [a0, a1, a2, a3, a4, a5, a6, a7]) :
    w.cell? ⟨g, 0, none⟩ = some (.int .i64 a0) ∧ w.cell? ⟨g, 1, none⟩ = some (.int .i64 a1) ∧ w.cell? ⟨g, 2, none⟩ = some (.int .i64 a2) ∧ w.cell? ⟨g, 3, none⟩ = some (.int .i64 a3) ∧
    w.cell? ⟨g, 4, none⟩ = some (.int .i64 a4) ∧ w.cell? ⟨g, 5, none⟩ = some (.int .i64 a5) ∧ w.cell? ⟨g, 6, none⟩ = some (.int .i64 a6) ∧ w.cell? ⟨g, 7, none⟩ = some (.int .i64 a7) :=
  ⟨h.cell 0 (by simp), h.cell 1 (by simp), h.cell 2 (by simp), h.cell 3 (by simp), h.cell 4 (by simp), h.cell 5 (by simp), h.cell 6 (by simp), h.cell 7 (by simp)⟩
set_option maxRecDepth 100000 in
set_option maxHeartbeats 2000000 in
theorem may_in (a0 a1 a2 a3 a4 a5 a6 a7 : Int) (w : World) : Calls Tryd.prog 15 #[.agg #[.int .i64 a0, .int .i64 a1, .int .i64 a2, .int .i64 a3, .int .i64 a4, .int .i64 a5, .int .i64 a6, .int .i64 a7]] w fun e w' => e = .returned (.bool (mayP [a0, a1, a2, a3, a4, a5, a6, a7])) ∧ Below w.heap.size w w' := by
  obtain ⟨b, hb⟩ : ∃ b, mayP [a0, a1, a2, a3, a4, a5, a6, a7] = b := ⟨_, rfl⟩
  obtain ⟨L, hL⟩ : ∃ L, arr (low [a0, a1, a2, a3, a4, a5, a6, a7]) = L := ⟨_, rfl⟩
  have hlow := fun u => low_any [a0, a1, a2, a3, a4, a5, a6, a7] rfl u
  rw [hL] at hlow
  have heq := fun u => eq22 [a0, a1, a2, a3, a4, a5, a6, a7] (low [a0, a1, a2, a3, a4, a5, a6, a7]) rfl (low_len _) b (by rw [low_may _ rfl, hb]) u
  rw [hL] at heq
  have heq' : ∀ u, (Op.equalIn 10000 22 (.agg #[.int .i64 a0, .int .i64 a1, .int .i64 a2, .int .i64 a3, .int .i64 a4, .int .i64 a5, .int .i64 a6, .int .i64 a7]) (.agg L)).run Tryd.prog u = .ok b u := heq
  have HR := Lib.hid (show RowAt (w.alloc (.cells #[.int .i64 a0, .int .i64 a1, .int .i64 a2, .int .i64 a3, .int .i64 a4, .int .i64 a5, .int .i64 a6, .int .i64 a7] 22)) w.heap.size [a0, a1, a2, a3, a4, a5, a6, a7] from RowAt.new w [a0, a1, a2, a3, a4, a5, a6, a7])
  have HB := Lib.hid (show Below w.heap.size w (w.alloc (.cells #[.int .i64 a0, .int .i64 a1, .int .i64 a2, .int .i64 a3, .int .i64 a4, .int .i64 a5, .int .i64 a6, .int .i64 a7] 22)) from (Below.refl _ w).alloc (Nat.le_refl _) _)
  have hl := Lib.hid hlow
  rw [hb]
  clear hb hL heq hlow
  go_enter Tryd.func15, Tryd.ntmps15
  go_wp2_with fail
  generalize w.alloc (.cells #[.int .i64 a0, .int .i64 a1, .int .i64 a2, .int .i64 a3, .int .i64 a4, .int .i64 a5, .int .i64 a6, .int .i64 a7] 22) = W at HR HB ⊢
  obtain ⟨c0, c1, c2, c3, c4, c5, c6, c7⟩ := HR.out.eight
  go_region_with (go_at_call 23; refine (hl.out _).mono ?_; rintro e w2 ⟨rfl, hB2⟩; obtain ⟨d0, d1, d2, d3, d4, d5, d6, d7⟩ := (HR.out.drew.later hB2).eight)
  all_goals
    go_wp2
    go_ret
    exact ⟨rfl, HB.out.drew.trans (hB2.mono HB.out.size)⟩
end Go.Proofs.YtgfhjigalefkmaaDoor.Six
