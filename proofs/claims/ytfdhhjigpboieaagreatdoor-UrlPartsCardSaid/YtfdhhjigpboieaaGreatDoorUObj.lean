/-
  Addresses as values, and on the heap.
-/
import Derived.Test.YtfdhhjigpboieaaGreatDoorUTexts
namespace Go.Proofs.YtfdhhjigpboieaaGreatDoor.Url
open Go.RowKit Go.Shelf
open Host (H HostAt none0)
open Six (arr RowAt zero8)
open Path (Strs)
set_option linter.unusedSimpArgs false
set_option linter.unusedVariables false
set_option maxRecDepth 100000

/-- An address's cells; 'pv': its path. -/
def cU (u : U) (pv : Value) : Array Value :=
  (.string (tb u.sch) :: .string (tb u.usr) :: .string (tb u.pas) :: .int .i64 u.h.k :: .string u.h.s :: .int .i64 u.h.n :: (u.h.p.map (Value.int .i64) ++
    [.int .i64 u.port, pv, .string (tb u.opq), .string (tb u.qry), .string (tb u.frg), .bool u.hq, .bool u.hf])).toArray
theorem eight {p : List Int} (h8 : p.length = 8) : ∃ a b c d e f g i, p = [a, b, c, d, e, f, g, i] := by
  match p, h8 with
  | [a, b, c, d, e, f, g, i], _ => exact ⟨a, b, c, d, e, f, g, i, rfl⟩
theorem cU_size (u : U) (pv : Value) (h8 : u.h.p.length = 8) : (cU u pv).size = 21 := by simp [cU, h8]
theorem cU_one (u : U) (pv : Value) (hp : pv.oneCell' = true) : (cU u pv).all (·.oneCell') = true := by
  rw [Array.all_eq_true_iff_forall_mem]
  intro v hv
  simp only [cU, List.mem_toArray, List.mem_cons, List.mem_append, List.mem_map, List.not_mem_nil, or_false] at hv
  rcases hv with rfl | rfl | rfl | rfl | rfl | rfl | ⟨z, _, rfl⟩ | rfl | rfl | rfl | rfl | rfl | rfl | rfl <;> first | rfl | exact hp
theorem size27 : (Tryz.prog.info? 27).map (·.size) = some 21 := by kernel_rfl
def UrlAt (W : World) (g : Nat) (u : U) (pv : Value) : Prop := W.heap[g]? = some (.cells (cU u pv) 27 (0, 0))
theorem UrlAt.lt {w : World} {g : Nat} {u : U} {pv : Value} (a : UrlAt w g u pv) : g < w.heap.size := (Array.getElem?_eq_some_iff.1 a).1
theorem UrlAt.new (w : World) (u : U) (pv : Value) : UrlAt (w.alloc (.cells (cU u pv) 27)) w.heap.size u pv := heap_alloc_new w _
theorem UrlAt.past {w : World} {g : Nat} {u : U} {pv : Value} (a : UrlAt w g u pv) (o : Obj) : UrlAt (w.alloc o) g u pv := (heap_alloc_old w o a.lt).trans a
theorem UrlAt.row {W : World} {g : Nat} {u : U} {pv : Value} (a : UrlAt W g u pv) (k : U) (qv : Value) : UrlAt (W.setRow g (cU k qv)) g k qv := setRow_heap W g _ _ 27 (0, 0) a
theorem UrlAt.below {w v : World} {B g : Nat} {u : U} {pv : Value} (a : UrlAt w g u pv) (hB : Below B w v) (hg : g < B) : UrlAt v g u pv := (hB.block g hg).trans a
theorem UrlAt.later {w v : World} {g : Nat} {u : U} {pv : Value} (a : UrlAt w g u pv) (hB : Below w.heap.size w v) : UrlAt v g u pv := a.below hB a.lt
theorem UrlAt.cell {w : World} {g : Nat} {u : U} {pv : Value} (a : UrlAt w g u pv) (j : Nat) : w.cell? ⟨g, j, none⟩ = (cU u pv)[j]? := cell_of_row w g j (cU u pv) 27 (0, 0) a
theorem UrlAt.load {w : World} {g : Nat} {u : U} {pv : Value} (a : UrlAt w g u pv) (h8 : u.h.p.length = 8) : (loadVar 27 ⟨g, 0, none⟩).run Tryz.prog w = .ok (.agg (cU u pv)) w :=
  run_loadVar_row w g 27 27 (cU u pv) (0, 0) _ a Tryz.underlying27 rfl (by rw [cU_size u pv h8]; exact size27)
theorem cU_at (u : U) (pv : Value) (h8 : u.h.p.length = 8) : (cU u pv)[0]? = some (.string (tb u.sch)) ∧ (cU u pv)[1]? = some (.string (tb u.usr)) ∧ (cU u pv)[2]? = some (.string (tb u.pas)) ∧ (cU u pv)[4]? = some (.string u.h.s) ∧ (cU u pv)[14]? = some (.int .i64 u.port) ∧
    (cU u pv)[15]? = some pv ∧ (cU u pv)[16]? = some (.string (tb u.opq)) ∧ (cU u pv)[17]? = some (.string (tb u.qry)) ∧ (cU u pv)[18]? = some (.string (tb u.frg)) ∧ (cU u pv)[19]? = some (.bool u.hq) ∧ (cU u pv)[20]? = some (.bool u.hf) := by
  obtain ⟨sch, usr, pas, ⟨k, s, n, p⟩, port, path, opq, qry, frg, hq, hf⟩ := u
  obtain ⟨a, b, c, d, e, f, g, i, rfl⟩ := eight h8
  exact ⟨rfl, rfl, rfl, rfl, rfl, rfl, rfl, rfl, rfl, rfl, rfl⟩
theorem cU_host (u : U) (pv : Value) (h8 : u.h.p.length = 8) (j : Nat) (hj : j < 11) : (cU u pv)[3 + j]? = u.h.cells[j]? := by
  obtain ⟨sch, usr, pas, ⟨k, s, n, p⟩, port, path, opq, qry, frg, hq, hf⟩ := u
  obtain ⟨a, b, c, d, e, f, g, i, rfl⟩ := eight h8
  match j, hj with
  | 0, _ | 1, _ | 2, _ | 3, _ | 4, _ | 5, _ | 6, _ | 7, _ | 8, _ | 9, _ | 10, _ => rfl
/-- The host that lies in an address. -/
theorem UrlAt.host {w : World} {g : Nat} {u : U} {pv : Value} (a : UrlAt w g u pv) (h8 : u.h.p.length = 8) : (loadVar 24 ⟨g, 3, none⟩).run Tryz.prog w = .ok (.agg u.h.cells) w := by
  have hsz8 := u.h.size h8
  have hl : (loadCells ⟨g, 3, none⟩ u.h.cells.toList.length).run Tryz.prog w = .ok u.h.cells.toList.toArray w :=
    run_loadCells_list (P := Tryz.prog) w ⟨g, 3, none⟩ u.h.cells.toList (fun j v hv => by
      have hadd : (⟨g, 3, none⟩ : Addr).add j = ⟨g, 3 + j, none⟩ := by unfold Addr.add; split <;> simp_all
      have hj : j < 11 := by have := (List.getElem?_eq_some_iff.1 hv).1; rwa [Array.length_toList, hsz8] at this
      rw [hadd, a.cell, cU_host u pv h8 j hj]
      simpa using hv)
  have hagg : (isAgg 24).run Tryz.prog w = .ok true w := by kernel_rfl
  have hsz : (sizeOf 24).run Tryz.prog w = .ok 11 w := by kernel_rfl
  have hlen : u.h.cells.toList.length = 11 := by rw [Array.length_toList, hsz8]
  rw [hlen] at hl
  simp [loadVar, Sem.run_bind, hagg, hsz, hl]
theorem wp_load27 {ops : Array Oper} {rest : List Oper} {o : Oper} {a : Act} {w : World} {Q : Exit → Act → World → Prop} (hgd : Region.wanted o (yielded ops a.tmps) = true) (x : Operand) (ho : o.op = .load 27 x) (g : Nat) (hx : a.eval x = .pointer (some ⟨g, 0, none⟩))
    (u : U) (pv : Value) (h8 : u.h.p.length = 8) (hr : UrlAt w g u pv) (hk : wpList Tryz.prog ops Q rest (a.put o.dst (.agg (cU u pv))) w) : wpList Tryz.prog ops Q (o :: rest) a w :=
  Six.wpList_taken hgd fun _ hK => wp_load_row 27 x ho g hx 27 (cU u pv) (0, 0) _ hr Tryz.underlying27 rfl (by rw [cU_size u pv h8]; exact size27) (hK _ _ hk)
theorem wp_load24u {ops : Array Oper} {rest : List Oper} {o : Oper} {a : Act} {w : World} {Q : Exit → Act → World → Prop} (hgd : Region.wanted o (yielded ops a.tmps) = true) (x : Operand) (ho : o.op = .load 24 x) (g : Nat) (hx : a.eval x = .pointer (some ⟨g, 3, none⟩))
    (u : U) (pv : Value) (h8 : u.h.p.length = 8) (hr : UrlAt w g u pv) (hk : wpList Tryz.prog ops Q rest (a.put o.dst (.agg u.h.cells)) w) : wpList Tryz.prog ops Q (o :: rest) a w :=
  Host.wp_load_at hgd 24 x ho ⟨g, 3, none⟩ hx (.agg u.h.cells) (hr.host h8) hk
theorem wp_store27 {ops : Array Oper} {rest : List Oper} {o : Oper} {a : Act} {w : World} {Q : Exit → Act → World → Prop} (hgd : o.guard = none) (x y : Operand) (ho : o.op = .store 27 x y) (g : Nat) (hx : a.eval x = .pointer (some ⟨g, 0, none⟩))
    (k : U) (qv : Value) (hy : a.eval y = .agg (cU k qv)) (k8 : k.h.p.length = 8) (hq : qv.oneCell' = true) (l : U) (pv : Value) (h8 : l.h.p.length = 8) (hr : UrlAt w g l pv) (h : wpList Tryz.prog ops Q rest (a.put o.dst undef) (w.setRow g (cU k qv))) : wpList Tryz.prog ops Q (o :: rest) a w :=
  wpList_plain hgd fun _ hK => wp_store_row 27 x y ho g (cU k qv) hx hy 27 (cU l pv) hr (by rw [cU_size k qv k8]; exact size27) (by rw [cU_size k qv k8, cU_size l pv h8]) (cU_one k qv hq) (hK _ _ h)
theorem heap_set {w : World} {g : Nat} {cs : Array Value} {t : TypeId} {fr : Nat × Nat} (h : w.heap[g]? = some (.cells cs t fr)) (j : Nat) (v : Value) : (w.setCell ⟨g, j, none⟩ v).heap[g]? = some (.cells (cs.setIfInBounds j v) t fr) := by
  unfold World.setCell
  simp [Array.getElem?_modify, h]
theorem below_set {B : Nat} {a w : World} (h : Below B a w) {g : Nat} (hp : B ≤ g) (j : Nat) (v : Value) : Below B a (w.setCell ⟨g, j, none⟩ v) :=
  h.trans ⟨rfl, rfl, rfl, by simp [World.setCell], fun k hk => by simp [World.setCell, Array.getElem?_modify, show g ≠ k by omega]⟩
theorem UrlAt.qry {w : World} {g : Nat} {u : U} {pv : Value} (a : UrlAt w g u pv) (h8 : u.h.p.length = 8) (x : T) : UrlAt (w.setCell ⟨g, 17, none⟩ (.string (tb x))) g { u with qry := x } pv := by
  have := heap_set a 17 (.string (tb x))
  unfold UrlAt
  rw [this]
  obtain ⟨sch, usr, pas, ⟨k, s, n, p⟩, port, path, opq, qry, frg, hq, hf⟩ := u
  obtain ⟨a, b, c, d, e, f, g, i, rfl⟩ := eight h8
  rfl
theorem UrlAt.frg {w : World} {g : Nat} {u : U} {pv : Value} (a : UrlAt w g u pv) (h8 : u.h.p.length = 8) (x : T) : UrlAt (w.setCell ⟨g, 18, none⟩ (.string (tb x))) g { u with frg := x } pv := by
  have := heap_set a 18 (.string (tb x))
  unfold UrlAt
  rw [this]
  obtain ⟨sch, usr, pas, ⟨k, s, n, p⟩, port, path, opq, qry, frg, hq, hf⟩ := u
  obtain ⟨a, b, c, d, e, f, g, i, rfl⟩ := eight h8
  rfl
theorem UrlAt.hq {w : World} {g : Nat} {u : U} {pv : Value} (a : UrlAt w g u pv) (h8 : u.h.p.length = 8) (x : Bool) : UrlAt (w.setCell ⟨g, 19, none⟩ (.bool x)) g { u with hq := x } pv := by
  have := heap_set a 19 (.bool x)
  unfold UrlAt
  rw [this]
  obtain ⟨sch, usr, pas, ⟨k, s, n, p⟩, port, path, opq, qry, frg, hq, hf⟩ := u
  obtain ⟨a, b, c, d, e, f, g, i, rfl⟩ := eight h8
  rfl
theorem UrlAt.hf {w : World} {g : Nat} {u : U} {pv : Value} (a : UrlAt w g u pv) (h8 : u.h.p.length = 8) (x : Bool) : UrlAt (w.setCell ⟨g, 20, none⟩ (.bool x)) g { u with hf := x } pv := by
  have := heap_set a 20 (.bool x)
  unfold UrlAt
  rw [this]
  obtain ⟨sch, usr, pas, ⟨k, s, n, p⟩, port, path, opq, qry, frg, hq, hf⟩ := u
  obtain ⟨a, b, c, d, e, f, g, i, rfl⟩ := eight h8
  rfl
theorem UrlAt.prt {w : World} {g : Nat} {u : U} {pv : Value} (a : UrlAt w g u pv) (h8 : u.h.p.length = 8) (x : Int) : UrlAt (w.setCell ⟨g, 14, none⟩ (.int .i64 x)) g { u with port := x } pv := by
  have := heap_set a 14 (.int .i64 x)
  unfold UrlAt
  rw [this]
  obtain ⟨sch, usr, pas, ⟨k, s, n, p⟩, port, path, opq, qry, frg, hq, hf⟩ := u
  obtain ⟨a, b, c, d, e, f, g, i, rfl⟩ := eight h8
  rfl
theorem UrlAt.pth {w : World} {g : Nat} {u : U} {pv : Value} (a : UrlAt w g u pv) (h8 : u.h.p.length = 8) (x : List T) (qv : Value) : UrlAt (w.setCell ⟨g, 15, none⟩ qv) g { u with path := x } qv := by
  have := heap_set a 15 qv
  unfold UrlAt
  rw [this]
  obtain ⟨sch, usr, pas, ⟨k, s, n, p⟩, port, path, opq, qry, frg, hq, hf⟩ := u
  obtain ⟨a, b, c, d, e, f, g, i, rfl⟩ := eight h8
  rfl
/-- A value is this address. -/
def UrlV (W : World) (v : Value) (u : U) : Prop := ∃ pv, v = .agg (cU u pv) ∧ Strs W pv u.path
theorem UrlV.later {W V : World} {v : Value} {u : U} (h : UrlV W v u) (hB : Below W.heap.size W V) : UrlV V v u := by
  obtain ⟨pv, h1, h2⟩ := h
  exact ⟨pv, h1, h2.later hB⟩
theorem strs_one {W : World} {v : Value} {l : List T} (h : Strs W v l) : v.oneCell' = true := by
  obtain ⟨a, c, rfl, _⟩ := h
  rfl
theorem none_cells (pv : Value) : cU none1 (.slice none 0 0) = #[.string ⟨#[]⟩, .string ⟨#[]⟩, .string ⟨#[]⟩, .int .i64 0, .string ⟨#[]⟩, .int .i64 0, .int .i64 0, .int .i64 0, .int .i64 0, .int .i64 0, .int .i64 0, .int .i64 0, .int .i64 0, .int .i64 0, .int .i64 0, .slice none 0 0,
    .string ⟨#[]⟩, .string ⟨#[]⟩, .string ⟨#[]⟩, .bool false, .bool false] := rfl
end Go.Proofs.YtfdhhjigpboieaaGreatDoor.Url
