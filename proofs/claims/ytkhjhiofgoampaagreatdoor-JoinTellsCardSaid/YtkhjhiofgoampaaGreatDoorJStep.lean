/-
  A step: an address and what is left of a text, as a value and on the heap.
-/
import Derived.Test.YtkhjhiofgoampaaGreatDoorJFacts
namespace Go.Proofs.YtkhjhiofgoampaaGreatDoor.Join
set_option linter.unusedSimpArgs false
set_option linter.unusedVariables false
set_option maxRecDepth 100000


open Go.RowKit Go.Shelf

open Url Show

open Host (none0)

open Path (Strs)

set_option maxRecDepth 100000

def cS (u : U) (pv : Value) (t : ByteArray) : Array Value := (cU u pv).push (.string t)

theorem cS_size (u : U) (pv : Value) (t : ByteArray) (h8 : u.h.p.length = 8) : (cS u pv t).size = 22 := by
  unfold cS
  rw [Array.size_push, cU_size u pv h8]

theorem cS_one (u : U) (pv : Value) (t : ByteArray) (hp : pv.oneCell' = true) : (cS u pv t).all (·.oneCell') = true := by
  have := cU_one u pv hp
  rw [Array.all_eq_true_iff_forall_mem] at this ⊢
  intro v hv
  rcases Array.mem_push.1 (show v ∈ (cU u pv).push (.string t) from hv) with h | rfl
  · exact this v h
  · rfl

theorem size83 : (Tryz.prog.info? 83).map (·.size) = some 22 := by kernel_rfl

def StepAt (W : World) (g : Nat) (u : U) (pv : Value) (t : ByteArray) : Prop := W.heap[g]? = some (.cells (cS u pv t) 83 (0, 0))

theorem StepAt.lt {w : World} {g : Nat} {u : U} {pv : Value} {t : ByteArray} (a : StepAt w g u pv t) : g < w.heap.size := (Array.getElem?_eq_some_iff.1 a).1

theorem StepAt.new (w : World) (u : U) (pv : Value) (t : ByteArray) : StepAt (w.alloc (.cells (cS u pv t) 83)) w.heap.size u pv t := heap_alloc_new w _

theorem StepAt.past {w : World} {g : Nat} {u : U} {pv : Value} {t : ByteArray} (a : StepAt w g u pv t) (o : Obj) : StepAt (w.alloc o) g u pv t := (heap_alloc_old w o a.lt).trans a

theorem StepAt.row {W : World} {g : Nat} {u : U} {pv : Value} {t : ByteArray} (a : StepAt W g u pv t) (k : U) (qv : Value) (s : ByteArray) : StepAt (W.setRow g (cS k qv s)) g k qv s := setRow_heap W g _ _ 83 (0, 0) a

theorem StepAt.below {w v : World} {B g : Nat} {u : U} {pv : Value} {t : ByteArray} (a : StepAt w g u pv t) (hB : Below B w v) (hg : g < B) : StepAt v g u pv t := (hB.block g hg).trans a

theorem StepAt.later {w v : World} {g : Nat} {u : U} {pv : Value} {t : ByteArray} (a : StepAt w g u pv t) (hB : Below w.heap.size w v) : StepAt v g u pv t := a.below hB a.lt

theorem StepAt.cell {w : World} {g : Nat} {u : U} {pv : Value} {t : ByteArray} (a : StepAt w g u pv t) (j : Nat) : w.cell? ⟨g, j, none⟩ = (cS u pv t)[j]? := cell_of_row w g j (cS u pv t) 83 (0, 0) a

theorem StepAt.free {w : World} {g : Nat} {u : U} {pv : Value} {t : ByteArray} (a : StepAt w g u pv t) (j : Nat) : w.frozen? ⟨g, j, none⟩ = false := Lib.frozen_of_heap a j

theorem cS_at (u : U) (pv : Value) (t : ByteArray) (h8 : u.h.p.length = 8) : (cS u pv t)[15]? = some pv ∧ (cS u pv t)[17]? = some (.string (tb u.qry)) ∧ (cS u pv t)[18]? = some (.string (tb u.frg)) ∧ (cS u pv t)[19]? = some (.bool u.hq) ∧ (cS u pv t)[20]? = some (.bool u.hf) ∧
    (cS u pv t)[21]? = some (.string t) := by
  obtain ⟨sch, usr, pas, ⟨k, s, n, p⟩, port, path, opq, qry, frg, hq, hf⟩ := u
  obtain ⟨a, b, c, d, e, f, g, i, rfl⟩ := eight h8
  exact ⟨rfl, rfl, rfl, rfl, rfl, rfl⟩

theorem cS_url (u : U) (pv : Value) (t : ByteArray) (h8 : u.h.p.length = 8) (j : Nat) (hj : j < 21) : (cS u pv t)[j]? = (cU u pv)[j]? := by
  unfold cS
  rw [Array.getElem?_push, if_neg (by rw [cU_size u pv h8]; omega)]

theorem StepAt.load {w : World} {g : Nat} {u : U} {pv : Value} {t : ByteArray} (a : StepAt w g u pv t) (h8 : u.h.p.length = 8) : (loadVar 83 ⟨g, 0, none⟩).run Tryz.prog w = .ok (.agg (cS u pv t)) w :=
  run_loadVar_row w g 83 83 (cS u pv t) (0, 0) _ a Tryz.underlying83 rfl (by rw [cS_size u pv t h8]; exact size83)

/-- The address that lies in a step. -/
theorem StepAt.url {w : World} {g : Nat} {u : U} {pv : Value} {t : ByteArray} (a : StepAt w g u pv t) (h8 : u.h.p.length = 8) : (loadVar 27 ⟨g, 0, none⟩).run Tryz.prog w = .ok (.agg (cU u pv)) w := by
  have hsz8 := cU_size u pv h8
  have hl : (loadCells ⟨g, 0, none⟩ (cU u pv).toList.length).run Tryz.prog w = .ok (cU u pv).toList.toArray w :=
    run_loadCells_list (P := Tryz.prog) w ⟨g, 0, none⟩ (cU u pv).toList (fun j v hv => by
      have hadd : (⟨g, 0, none⟩ : Addr).add j = ⟨g, j, none⟩ := by unfold Addr.add; simp; omega
      have hj : j < 21 := by have := (List.getElem?_eq_some_iff.1 hv).1; rwa [Array.length_toList, hsz8] at this
      rw [hadd, a.cell, cS_url u pv t h8 j hj]
      simpa using hv)
  have hagg : (isAgg 27).run Tryz.prog w = .ok true w := by kernel_rfl
  have hsz : (sizeOf 27).run Tryz.prog w = .ok 21 w := by kernel_rfl
  have hlen : (cU u pv).toList.length = 21 := by rw [Array.length_toList, hsz8]
  rw [hlen] at hl
  simp [loadVar, Sem.run_bind, hagg, hsz, hl]

theorem wp_load83 {ops : Array Oper} {rest : List Oper} {o : Oper} {a : Act} {w : World} {Q : Exit → Act → World → Prop} (hgd : Region.wanted o (yielded ops a.tmps) = true) (x : Operand) (ho : o.op = .load 83 x) (g : Nat) (hx : a.eval x = .pointer (some ⟨g, 0, none⟩))
    (u : U) (pv : Value) (t : ByteArray) (h8 : u.h.p.length = 8) (hr : StepAt w g u pv t) (hk : wpList Tryz.prog ops Q rest (a.put o.dst (.agg (cS u pv t))) w) : wpList Tryz.prog ops Q (o :: rest) a w :=
  Six.wpList_taken hgd fun _ hK => wp_load_row 83 x ho g hx 83 (cS u pv t) (0, 0) _ hr Tryz.underlying83 rfl (by rw [cS_size u pv t h8]; exact size83) (hK _ _ hk)

theorem wp_load27s {ops : Array Oper} {rest : List Oper} {o : Oper} {a : Act} {w : World} {Q : Exit → Act → World → Prop} (hgd : Region.wanted o (yielded ops a.tmps) = true) (x : Operand) (ho : o.op = .load 27 x) (g : Nat) (hx : a.eval x = .pointer (some ⟨g, 0, none⟩))
    (u : U) (pv : Value) (t : ByteArray) (h8 : u.h.p.length = 8) (hr : StepAt w g u pv t) (hk : wpList Tryz.prog ops Q rest (a.put o.dst (.agg (cU u pv))) w) : wpList Tryz.prog ops Q (o :: rest) a w :=
  Host.wp_load_at hgd 27 x ho ⟨g, 0, none⟩ hx (.agg (cU u pv)) (hr.url h8) hk

theorem wp_store83 {ops : Array Oper} {rest : List Oper} {o : Oper} {a : Act} {w : World} {Q : Exit → Act → World → Prop} (hgd : o.guard = none) (x y : Operand) (ho : o.op = .store 83 x y) (g : Nat) (hx : a.eval x = .pointer (some ⟨g, 0, none⟩))
    (k : U) (qv : Value) (s : ByteArray) (hy : a.eval y = .agg (cS k qv s)) (k8 : k.h.p.length = 8) (hq : qv.oneCell' = true) (l : U) (pv : Value) (t : ByteArray) (h8 : l.h.p.length = 8) (hr : StepAt w g l pv t) (h : wpList Tryz.prog ops Q rest (a.put o.dst undef) (w.setRow g (cS k qv s))) : wpList Tryz.prog ops Q (o :: rest) a w :=
  wpList_plain hgd fun _ hK => wp_store_row 83 x y ho g (cS k qv s) hx hy 83 (cS l pv t) hr (by rw [cS_size k qv s k8]; exact size83) (by rw [cS_size k qv s k8, cS_size l pv t h8]) (cS_one k qv s hq) (hK _ _ h)

theorem built83 (u : U) (pv : Value) (t : ByteArray) (h8 : u.h.p.length = 8) : Tryz.prog.built 83 [(0, .agg (cU u pv)), (1, .agg #[.string t])] = some (cS u pv t) := by
  obtain ⟨sch, usr, pas, ⟨k, s, n, p⟩, port, path, opq, qry, frg, hq, hf⟩ := u
  obtain ⟨a, b, c, d, e, f, g, i, rfl⟩ := eight h8
  kernel_rfl

theorem wp_build83 {ops : Array Oper} {rest : List Oper} {o : Oper} {a : Act} {w : World} {Q : Exit → Act → World → Prop} (hgd : o.guard = none) (x y : Operand) (ho : o.op = .build 83 #[(0, x), (1, y)]) (u : U) (pv : Value) (t : ByteArray)
    (hx : a.eval x = .agg (cU u pv)) (hy : a.eval y = .agg #[.string t]) (h8 : u.h.p.length = 8) (h : wpList Tryz.prog ops Q rest (a.put o.dst (.agg (cS u pv t))) w) : wpList Tryz.prog ops Q (o :: rest) a w :=
  wpList_plain hgd fun _ hK => by
    unfold Oper.wp execOp
    have hb : Tryz.prog.built 83 (#[(0, a.eval x), (1, a.eval y)] : Array (Nat × Value)).toList = some (cS u pv t) := by rw [hx, hy]; exact built83 u pv t h8
    simp only [ho, Sem.run_bind, List.map_toArray, List.map_cons, List.map_nil, run_build w 83 _ _ hb, Result.andThen_ok]
    exact hK _ _ h

theorem step_set {w : World} {g : Nat} {u : U} {pv : Value} {t : ByteArray} (a : StepAt w g u pv t) (j : Nat) (v : Value) {k : U} {qv : Value} {s : ByteArray} (h : (cS u pv t).setIfInBounds j v = cS k qv s) : StepAt (w.setCell ⟨g, j, none⟩ v) g k qv s := by
  have := heap_set a j v
  rw [h] at this
  exact this

theorem set_pth (u : U) (pv : Value) (t : ByteArray) (h8 : u.h.p.length = 8) (x : List T) (qv : Value) : (cS u pv t).setIfInBounds 15 qv = cS { u with path := x } qv t := by
  obtain ⟨sch, usr, pas, ⟨k, s, n, p⟩, port, path, opq, qry, frg, hq, hf⟩ := u
  obtain ⟨a, b, c, d, e, f, g, i, rfl⟩ := eight h8
  rfl

theorem set_qry (u : U) (pv : Value) (t : ByteArray) (h8 : u.h.p.length = 8) (x : T) : (cS u pv t).setIfInBounds 17 (.string (tb x)) = cS { u with qry := x } pv t := by
  obtain ⟨sch, usr, pas, ⟨k, s, n, p⟩, port, path, opq, qry, frg, hq, hf⟩ := u
  obtain ⟨a, b, c, d, e, f, g, i, rfl⟩ := eight h8
  rfl

theorem set_frg (u : U) (pv : Value) (t : ByteArray) (h8 : u.h.p.length = 8) (x : T) : (cS u pv t).setIfInBounds 18 (.string (tb x)) = cS { u with frg := x } pv t := by
  obtain ⟨sch, usr, pas, ⟨k, s, n, p⟩, port, path, opq, qry, frg, hq, hf⟩ := u
  obtain ⟨a, b, c, d, e, f, g, i, rfl⟩ := eight h8
  rfl

theorem set_hq (u : U) (pv : Value) (t : ByteArray) (h8 : u.h.p.length = 8) (x : Bool) : (cS u pv t).setIfInBounds 19 (.bool x) = cS { u with hq := x } pv t := by
  obtain ⟨sch, usr, pas, ⟨k, s, n, p⟩, port, path, opq, qry, frg, hq, hf⟩ := u
  obtain ⟨a, b, c, d, e, f, g, i, rfl⟩ := eight h8
  rfl

theorem set_hf (u : U) (pv : Value) (t : ByteArray) (h8 : u.h.p.length = 8) (x : Bool) : (cS u pv t).setIfInBounds 20 (.bool x) = cS { u with hf := x } pv t := by
  obtain ⟨sch, usr, pas, ⟨k, s, n, p⟩, port, path, opq, qry, frg, hq, hf⟩ := u
  obtain ⟨a, b, c, d, e, f, g, i, rfl⟩ := eight h8
  rfl

theorem set_txt (u : U) (pv : Value) (t : ByteArray) (h8 : u.h.p.length = 8) (x : ByteArray) : (cS u pv t).setIfInBounds 21 (.string x) = cS u pv x := by
  obtain ⟨sch, usr, pas, ⟨k, s, n, p⟩, port, path, opq, qry, frg, hq, hf⟩ := u
  obtain ⟨a, b, c, d, e, f, g, i, rfl⟩ := eight h8
  rfl

end Go.Proofs.YtkhjhiofgoampaaGreatDoor.Join
