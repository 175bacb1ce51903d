/-
  The table of levels (an array of nine rows of four ints), a row of four ints on the heap; Usual(p), allowed(p), way(same, down), Allowed(p, same, down), Meet(a, b).
-/
import Derived.Below
import Derived.ProofKit
import Derived.RowKit
import Derived.BigRegion
import Derived.BigQuiet
import Derived.Deep.RegionWith
import Derived.Lib.LaidTab
import Derived.WalkMore
import Derived.Laws.Rows
import Derived.Laws.Tables
import Derived.Laws.BitsAllLaws
import Derived.Deep.LoopGhost
import Derived.Test.YtbmnhmbicefemaaGreatDoorPlFacts
namespace Go.Proofs.YtbmnhmbicefemaaGreatDoor.Policy
set_option linter.unusedSimpArgs false
set_option linter.unusedVariables false
set_option maxRecDepth 100000


open Go.RowKit

/-! ### The table -/
/-- The table of levels lies as its text lays it. -/
def TabAt (w : World) : Prop := ∀ k j, k < 9 → j < 4 → w.cell? ⟨0, k * 4 + j, none⟩ = some (.int .i64 (lev k j))

theorem TabAt.later {w u : World} (h : TabAt w) (hB : Below w.heap.size w u) : TabAt u :=
  fun k j hk hj => (hB.cell (p := ⟨0, k * 4 + j, none⟩) (World.block_lt_of_cell? _ _ (h k j hk hj))).trans (h k j hk hj)

/-- A policy's levels, as an array's cells. -/
def arr (k : Nat) : Array Value := #[.int .i64 (lev k 0), .int .i64 (lev k 1), .int .i64 (lev k 2), .int .i64 (lev k 3)]

theorem arr_at (k j : Nat) (h : j < 4) : (arr k)[j]? = some (.int .i64 (lev k j)) := by
  match j, h with
  | 0, _ => rfl
  | 1, _ => rfl
  | 2, _ => rfl
  | 3, _ => rfl

theorem arr_one (k : Nat) : (arr k).all (·.oneCell') = true := by simp [arr, Value.oneCell']

theorem TabAt.load {w : World} (h : TabAt w) (k : Nat) (hk : k < 9) : (loadVar 60 ⟨0, k * 4, none⟩).run Tryz.prog w = .ok (.agg (arr k)) w := by
  have hl : (loadCells ⟨0, k * 4, none⟩ (arr k).toList.length).run Tryz.prog w = .ok (arr k).toList.toArray w :=
    run_loadCells_list (P := Tryz.prog) w ⟨0, k * 4, none⟩ (arr k).toList (fun j v hv => by
      have hadd : (⟨0, k * 4, none⟩ : Addr).add j = ⟨0, k * 4 + j, none⟩ := by unfold Addr.add; simp
      have hj : j < 4 := (List.getElem?_eq_some_iff.1 hv).1
      rw [hadd, h k j hk hj]
      have := arr_at k j hj
      rw [← Array.getElem?_toList, hv] at this
      exact this.symm)
  have hagg : (isAgg 60).run Tryz.prog w = .ok true w := by kernel_rfl
  have hsz : (sizeOf 60).run Tryz.prog w = .ok 4 w := by kernel_rfl
  have hlen : (arr k).toList.length = 4 := rfl
  rw [hlen] at hl
  simp [loadVar, Sem.run_bind, hagg, hsz, hl]

theorem index4 (k j : Nat) (h : j < 4) (w : World) : (Instr.index 60 (.agg (arr k)) (.int .i64 j)).run Tryz.prog w = .ok (.int .i64 (lev k j)) w := by
  have hi : (0 : Int) ≤ (j : Int) ∧ (j : Int) < 4 := by omega
  have ha := arr_at k j h
  generalize arr k = na at ha ⊢
  generalize Value.int .i64 (lev k j) = v at ha ⊢
  simp [Instr.index, run_underlying Tryz.underlying60, asIntOf, hi, ha, go_sem]
  intro h'
  omega

theorem wp_index4 {ops : Array Oper} {rest : List Oper} {o : Oper} {a : Act} {w : World} {Q : Exit → Act → World → Prop} (hgd : o.guard = none) (x y : Operand) (ho : o.op = .index 60 x y) (k : Nat) (hx : a.eval x = .agg (arr k))
    (j : Nat) (h4 : j < 4) (hy : a.eval y = .int .i64 j) (h : wpList Tryz.prog ops Q rest (a.put o.dst (.int .i64 (lev k j))) w) : wpList Tryz.prog ops Q (o :: rest) a w :=
  wpList_plain hgd fun _ hK => by
    unfold Oper.wp execOp
    simp only [ho, Sem.run_bind, hx, hy, index4 k j h4 w, Result.andThen_ok]
    exact hK _ _ h

theorem wp_load_of {P : Program} {o : Oper} {a : Act} {w : World} {K : Act → World → Prop} {Q : Exit → Act → World → Prop} (ty : TypeId) (x : Operand) (ho : o.op = .load ty x) (p : Addr) (hx : a.eval x = .pointer (some p)) (v : Value) (hr : (loadVar ty p).run P w = .ok v w)
    (h : K (a.put o.dst v) w) : o.wp P a w K Q := by
  unfold Oper.wp execOp
  simp only [ho, hx, Instr.loadAt, Instr.sureAddr, Sem.run_bind, Sem.run_pure, Result.andThen_ok, hr]
  exact h

/-- A load of a policy's row out of the table. -/
theorem wp_load_tab {ops : Array Oper} {rest : List Oper} {o : Oper} {a : Act} {w : World} {Q : Exit → Act → World → Prop} (hgd : o.guard = none) (x : Operand) (ho : o.op = .load 60 x) (k : Nat) (hk : k < 9) (n : Nat) (hn : n = k * 4) (hx : a.eval x = .pointer (some ⟨0, n, none⟩))
    (hT : TabAt w) (h : wpList Tryz.prog ops Q rest (a.put o.dst (.agg (arr k))) w) : wpList Tryz.prog ops Q (o :: rest) a w := by
  subst hn
  exact wpList_plain hgd fun _ hK => wp_load_of 60 x ho _ hx (.agg (arr k)) (hT.load k hk) (hK _ _ h)

/-! ### A row on the heap -/

def RowAt (W : World) (g : Nat) (k : Nat) : Prop := W.heap[g]? = some (.cells (arr k) 60 (0, 0))

theorem RowAt.cell {W : World} {g k : Nat} (h : RowAt W g k) (j : Nat) (hj : j < 4) : W.cell? ⟨g, j, none⟩ = some (.int .i64 (lev k j)) := by
  rw [cell_of_row W g j (arr k) 60 (0, 0) h, arr_at k j hj]

theorem RowAt.new (w : World) (k : Nat) : RowAt (w.alloc (.cells (arr k) 60)) w.heap.size k := heap_alloc_new w _

theorem RowAt.lt {w : World} {g k : Nat} (h : RowAt w g k) : g < w.heap.size := (Array.getElem?_eq_some_iff.1 h).1

theorem RowAt.past {w : World} {g k : Nat} (h : RowAt w g k) (o : Obj) : RowAt (w.alloc o) g k := (heap_alloc_old w o h.lt).trans h

theorem RowAt.drew {w : World} {g k : Nat} (h : RowAt w g k) : RowAt w.drew g k := h

theorem RowAt.row {W : World} {g k : Nat} (h : RowAt W g k) (l : Nat) : RowAt (W.setRow g (arr l)) g l := setRow_heap W g _ _ 60 (0, 0) h

theorem RowAt.rowOther {W : World} {g b k : Nat} (h : RowAt W g k) (hb : g ≠ b) (c : Array Value) : RowAt (W.setRow b c) g k := by
  unfold RowAt at *
  simp [World.setRow, Array.getElem?_modify, h, Ne.symm hb]

theorem RowAt.below {w u : World} {B g k : Nat} (h : RowAt w g k) (hB : Below B w u) (hg : g < B) : RowAt u g k := (hB.block g hg).trans h

theorem RowAt.later {w u : World} {g k : Nat} (h : RowAt w g k) (hB : Below w.heap.size w u) : RowAt u g k := h.below hB h.lt

theorem below_setRow {B : Nat} {a w : World} (h : Below B a w) {g : Nat} (hp : B ≤ g) (k : Array Value) : Below B a (w.setRow g k) :=
  h.trans ⟨rfl, rfl, rfl, by simp [World.setRow], fun j hj => by simp [World.setRow, Array.getElem?_modify, show g ≠ j by omega]⟩

theorem size4 : (Tryz.prog.info? 60).map (·.size) = some 4 := by kernel_rfl

theorem wp_store4 {ops : Array Oper} {rest : List Oper} {o : Oper} {a : Act} {w : World} {Q : Exit → Act → World → Prop} (hgd : o.guard = none) (x y : Operand) (ho : o.op = .store 60 x y) (g : Nat) (hx : a.eval x = .pointer (some ⟨g, 0, none⟩))
    (k : Nat) (hy : a.eval y = .agg (arr k)) (l : Nat) (hr : RowAt w g l) (h : wpList Tryz.prog ops Q rest (a.put o.dst undef) (w.setRow g (arr k))) : wpList Tryz.prog ops Q (o :: rest) a w :=
  wpList_plain hgd fun _ hK => wp_store_row 60 x y ho g (arr k) hx hy 60 (arr l) hr (by rw [show (arr k).size = 4 from rfl]; exact size4) rfl (arr_one k) (hK _ _ h)

theorem zero_arr : (#[.int .i64 0, .int .i64 0, .int .i64 0, .int .i64 0] : Array Value) = arr 0 := rfl

/-! ### The functions -/

theorem usual_any (p : Int) (w : World) : Calls Tryz.prog 68 #[.int .i64 p] w fun e w' => e = .returned (.int .i64 (uN p : Nat)) ∧ w' = w := by
  by_cases h : 1 ≤ p ∧ p ≤ 8
  · have q1 : decide (0 < p) = true := decide_eq_true (by omega)
    have q2 : decide (p < 9) = true := decide_eq_true (by omega)
    rw [uN_in p h]
    clear h
    go_enter Tryz.func68, Tryz.ntmps68
    go_wp2
    go_ret
    exact ⟨rfl, rfl⟩
  · rw [uN_out p h]
    by_cases h0 : 0 < p
    · have q1 : decide (0 < p) = true := decide_eq_true h0
      have q2 : decide (p < 9) = false := decide_eq_false (by omega)
      clear h h0
      go_enter Tryz.func68, Tryz.ntmps68
      go_wp2
      go_ret
      exact ⟨rfl, rfl⟩
    · have q1 : decide (0 < p) = false := decide_eq_false h0
      clear h h0
      go_enter Tryz.func68, Tryz.ntmps68
      go_wp2
      go_ret
      exact ⟨rfl, rfl⟩

theorem way_any (s d : Bool) (w : World) : Calls Tryz.prog 63 #[.bool s, .bool d] w fun e w' => e = .returned (.int .i64 (wayN s d : Nat)) ∧ w' = w := by
  cases s <;> cases d <;>
  · go_enter Tryz.func63, Tryz.ntmps63
    go_wp2
    go_ret
    exact ⟨rfl, rfl⟩

set_option maxRecDepth 100000 in
set_option maxHeartbeats 2000000 in
theorem allowed_any (p : Int) (w : World) (hT : TabAt w) : Calls Tryz.prog 41 #[.int .i64 p] w fun e w' => e = .returned (.agg (arr (uN p))) ∧ Below w.heap.size w w' := by
  have hB0 : Below w.heap.size w (w.alloc (.cells (arr 0) 60)) := (Below.refl _ w).alloc (Nat.le_refl _) _
  have HR := Lib.hid (RowAt.new w 0)
  have HT := Lib.hid (hT.later hB0)
  have HB := Lib.hid (below_setRow hB0 (Nat.le_refl _) (arr (uN p)))
  have HW := Lib.hid (HR.out.row (uN p))
  have cU := fun u => usual_any p u
  have hk : uN p < 9 := Nat.lt_succ_of_le (uN_le p)
  have hi : (0 : Int) ≤ (uN p : Nat) ∧ ((uN p : Nat) : Int) < 9 := by omega
  clear hT hB0
  generalize uN p = k at *
  go_enter Tryz.func41, Tryz.ntmps41
  go_wp2_with fail
  refine (cU _).mono ?_
  rintro e w' ⟨rfl, rfl⟩
  rw [zero_arr]
  go_wp2_with (first | refine wp_load_tab rfl _ rfl k hk _ rfl rfl HT.out ?_ | refine wp_store4 rfl _ _ rfl _ rfl k rfl 0 HR.out ?_)
  exact bodyPost_ret (results_cell_row Tryz.results41 _ _ _ 60 (arr k) (0, 0) _ rfl HW.out Tryz.underlying60 rfl size4) rfl ⟨rfl, HB.out⟩

end Go.Proofs.YtbmnhmbicefemaaGreatDoor.Policy
