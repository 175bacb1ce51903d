/-
  Origins as values, and on the heap; compared.
-/
import Derived.Test.YtlkikfdbjpjpaaaGreatDoorOFacts
namespace Go.Proofs.YtlkikfdbjpjpaaaGreatDoor.Origin
set_option linter.unusedSimpArgs false
set_option linter.unusedVariables false
set_option maxRecDepth 100000


open Go.RowKit Go.Shelf

open Url Show

open Host (H HostAt none0 mayH showH localH sameH part_k part_n part_s part_p eq22d)

open Six (arr RowAt zero8)

open Path (Strs)

set_option maxRecDepth 100000

/-- An origin's cells. -/
def cO (o : O) : Array Value :=
  (.bool o.opaq :: .string (tb o.sch) :: .int .i64 o.h.k :: .string o.h.s :: .int .i64 o.h.n :: (o.h.p.map (Value.int .i64) ++ [.int .i64 o.port])).toArray

theorem cO_size (o : O) (h8 : o.h.p.length = 8) : (cO o).size = 14 := by simp [cO, h8]

theorem cO_one (o : O) : (cO o).all (·.oneCell') = true := by
  rw [Array.all_eq_true_iff_forall_mem]
  intro v hv
  simp only [cO, List.mem_toArray, List.mem_cons, List.mem_append, List.mem_map, List.not_mem_nil, or_false] at hv
  rcases hv with rfl | rfl | rfl | rfl | rfl | ⟨z, _, rfl⟩ | rfl <;> rfl

theorem size29 : (Tryz.prog.info? 30).map (·.size) = some 14 := by kernel_rfl

def OAt (W : World) (g : Nat) (o : O) : Prop := W.heap[g]? = some (.cells (cO o) 30 (0, 0))

theorem OAt.lt {w : World} {g : Nat} {o : O} (a : OAt w g o) : g < w.heap.size := (Array.getElem?_eq_some_iff.1 a).1

theorem OAt.new (w : World) (o : O) : OAt (w.alloc (.cells (cO o) 30)) w.heap.size o := heap_alloc_new w _

theorem OAt.past {w : World} {g : Nat} {o : O} (a : OAt w g o) (x : Obj) : OAt (w.alloc x) g o := (heap_alloc_old w x a.lt).trans a

theorem OAt.row {W : World} {g : Nat} {o : O} (a : OAt W g o) (k : O) : OAt (W.setRow g (cO k)) g k := setRow_heap W g _ _ 30 (0, 0) a

theorem OAt.below {w v : World} {B g : Nat} {o : O} (a : OAt w g o) (hB : Below B w v) (hg : g < B) : OAt v g o := (hB.block g hg).trans a

theorem OAt.later {w v : World} {g : Nat} {o : O} (a : OAt w g o) (hB : Below w.heap.size w v) : OAt v g o := a.below hB a.lt

theorem OAt.cell {w : World} {g : Nat} {o : O} (a : OAt w g o) (j : Nat) : w.cell? ⟨g, j, none⟩ = (cO o)[j]? := cell_of_row w g j (cO o) 30 (0, 0) a

theorem OAt.load {w : World} {g : Nat} {o : O} (a : OAt w g o) (h8 : o.h.p.length = 8) : (loadVar 30 ⟨g, 0, none⟩).run Tryz.prog w = .ok (.agg (cO o)) w :=
  run_loadVar_row w g 30 30 (cO o) (0, 0) _ a Tryz.underlying30 rfl (by rw [cO_size o h8]; exact size29)

theorem cO_at (o : O) (h8 : o.h.p.length = 8) : (cO o)[0]? = some (.bool o.opaq) ∧ (cO o)[1]? = some (.string (tb o.sch)) ∧ (cO o)[13]? = some (.int .i64 o.port) := by
  obtain ⟨b, sch, ⟨k, s, n, p⟩, port⟩ := o
  obtain ⟨a, b, c, d, e, f, g, i, rfl⟩ := eight h8
  exact ⟨rfl, rfl, rfl⟩

theorem cO_host (o : O) (h8 : o.h.p.length = 8) (j : Nat) (hj : j < 11) : (cO o)[2 + j]? = o.h.cells[j]? := by
  obtain ⟨b, sch, ⟨k, s, n, p⟩, port⟩ := o
  obtain ⟨a, b, c, d, e, f, g, i, rfl⟩ := eight h8
  match j, hj with
  | 0, _ | 1, _ | 2, _ | 3, _ | 4, _ | 5, _ | 6, _ | 7, _ | 8, _ | 9, _ | 10, _ => rfl

theorem OAt.cells {w : World} {g : Nat} {o : O} (a : OAt w g o) (h8 : o.h.p.length = 8) : w.cell? ⟨g, 0, none⟩ = some (.bool o.opaq) ∧ w.cell? ⟨g, 1, none⟩ = some (.string (tb o.sch)) ∧ w.cell? ⟨g, 13, none⟩ = some (.int .i64 o.port) :=
  ⟨(a.cell 0).trans (cO_at o h8).1, (a.cell 1).trans (cO_at o h8).2.1, (a.cell 13).trans (cO_at o h8).2.2⟩

/-- The host that lies in an origin. -/
theorem OAt.host {w : World} {g : Nat} {o : O} (a : OAt w g o) (h8 : o.h.p.length = 8) : (loadVar 24 ⟨g, 2, none⟩).run Tryz.prog w = .ok (.agg o.h.cells) w := by
  have hsz8 := o.h.size h8
  have hl : (loadCells ⟨g, 2, none⟩ o.h.cells.toList.length).run Tryz.prog w = .ok o.h.cells.toList.toArray w :=
    run_loadCells_list (P := Tryz.prog) w ⟨g, 2, none⟩ o.h.cells.toList (fun j v hv => by
      have hadd : (⟨g, 2, none⟩ : Addr).add j = ⟨g, 2 + j, none⟩ := by unfold Addr.add; split <;> simp_all
      have hj : j < 11 := by have := (List.getElem?_eq_some_iff.1 hv).1; rwa [Array.length_toList, hsz8] at this
      rw [hadd, a.cell, cO_host o h8 j hj]
      simpa using hv)
  have hagg : (isAgg 24).run Tryz.prog w = .ok true w := by kernel_rfl
  have hsz : (sizeOf 24).run Tryz.prog w = .ok 11 w := by kernel_rfl
  have hlen : o.h.cells.toList.length = 11 := by rw [Array.length_toList, hsz8]
  rw [hlen] at hl
  simp [loadVar, Sem.run_bind, hagg, hsz, hl]

theorem wp_load29 {ops : Array Oper} {rest : List Oper} {o : Oper} {a : Act} {w : World} {Q : Exit → Act → World → Prop} (hgd : Region.wanted o (yielded ops a.tmps) = true) (x : Operand) (ho : o.op = .load 30 x) (g : Nat) (hx : a.eval x = .pointer (some ⟨g, 0, none⟩))
    (u : O) (h8 : u.h.p.length = 8) (hr : OAt w g u) (hk : wpList Tryz.prog ops Q rest (a.put o.dst (.agg (cO u))) w) : wpList Tryz.prog ops Q (o :: rest) a w :=
  Six.wpList_taken hgd fun _ hK => wp_load_row 30 x ho g hx 30 (cO u) (0, 0) _ hr Tryz.underlying30 rfl (by rw [cO_size u h8]; exact size29) (hK _ _ hk)

theorem wp_load24o {ops : Array Oper} {rest : List Oper} {o : Oper} {a : Act} {w : World} {Q : Exit → Act → World → Prop} (hgd : Region.wanted o (yielded ops a.tmps) = true) (x : Operand) (ho : o.op = .load 24 x) (g : Nat) (hx : a.eval x = .pointer (some ⟨g, 2, none⟩))
    (u : O) (h8 : u.h.p.length = 8) (hr : OAt w g u) (hk : wpList Tryz.prog ops Q rest (a.put o.dst (.agg u.h.cells)) w) : wpList Tryz.prog ops Q (o :: rest) a w :=
  Host.wp_load_at hgd 24 x ho ⟨g, 2, none⟩ hx (.agg u.h.cells) (hr.host h8) hk

theorem wp_store29 {ops : Array Oper} {rest : List Oper} {o : Oper} {a : Act} {w : World} {Q : Exit → Act → World → Prop} (hgd : o.guard = none) (x y : Operand) (ho : o.op = .store 30 x y) (g : Nat) (hx : a.eval x = .pointer (some ⟨g, 0, none⟩))
    (k : O) (hy : a.eval y = .agg (cO k)) (k8 : k.h.p.length = 8) (l : O) (h8 : l.h.p.length = 8) (hr : OAt w g l) (h : wpList Tryz.prog ops Q rest (a.put o.dst undef) (w.setRow g (cO k))) : wpList Tryz.prog ops Q (o :: rest) a w :=
  wpList_plain hgd fun _ hK => wp_store_row 30 x y ho g (cO k) hx hy 30 (cO l) hr (by rw [cO_size k k8]; exact size29) (by rw [cO_size k k8, cO_size l h8]) (cO_one k) (hK _ _ h)

theorem field29 (o : O) (h8 : o.h.p.length = 8) (w : World) : (Instr.field 30 (.agg (cO o)) 0).run Tryz.prog w = .ok (.bool o.opaq) w := by
  obtain ⟨b, sch, ⟨k, s, n, p⟩, port⟩ := o
  obtain ⟨a, b', c, d, e, f, g, i, rfl⟩ := eight h8
  kernel_rfl

def zeroO : O := ⟨false, [], none0, 0⟩

theorem zero_at (w : World) : OAt (w.alloc (.cells #[.bool false, .string ⟨#[]⟩, .int .i64 0, .string ⟨#[]⟩, .int .i64 0, .int .i64 0, .int .i64 0, .int .i64 0, .int .i64 0, .int .i64 0, .int .i64 0, .int .i64 0, .int .i64 0, .int .i64 0] 30)) w.heap.size zeroO := OAt.new w zeroO

theorem null_cells : cO null0 = #[.bool true, .string ⟨#[]⟩, .int .i64 0, .string ⟨#[]⟩, .int .i64 0, .int .i64 0, .int .i64 0, .int .i64 0, .int .i64 0, .int .i64 0, .int .i64 0, .int .i64 0, .int .i64 0, .int .i64 0] := rfl
/-! ### Built -/

theorem built29 (l : T) (h : H) (z : Int) (h8 : h.p.length = 8) : Tryz.prog.built 30 [(1, .string (tb l)), (2, .agg h.cells), (3, .int .i64 z)] = some (cO ⟨false, l, h, z⟩) := by
  obtain ⟨k, s, n, p⟩ := h
  obtain ⟨a, b, c, d, e, f, g, i, rfl⟩ := eight h8
  kernel_rfl

theorem built29n : Tryz.prog.built 30 [(0, .bool true)] = some (cO null0) := by kernel_rfl

theorem built27 (l : T) (h : H) (z : Int) (sa : Option Addr) (sn sc : Nat) (h8 : h.p.length = 8) : Tryz.prog.built 27 [(0, .string (tb l)), (3, .agg h.cells), (4, .int .i64 z), (5, .slice sa sn sc)] = some (cU ⟨l, [], [], h, z, [[]], [], [], [], false, false⟩ (.slice sa sn sc)) := by
  obtain ⟨k, s, n, p⟩ := h
  obtain ⟨a, b, c, d, e, f, g, i, rfl⟩ := eight h8
  kernel_rfl

theorem wp_build29 {ops : Array Oper} {rest : List Oper} {o : Oper} {a : Act} {w : World} {Q : Exit → Act → World → Prop} (hgd : o.guard = none) (x y z : Operand) (ho : o.op = .build 30 #[(1, x), (2, y), (3, z)]) (l : T) (h : H) (n : Int)
    (hx : a.eval x = .string (tb l)) (hy : a.eval y = .agg h.cells) (hz : a.eval z = .int .i64 n) (h8 : h.p.length = 8) (hk : wpList Tryz.prog ops Q rest (a.put o.dst (.agg (cO ⟨false, l, h, n⟩))) w) : wpList Tryz.prog ops Q (o :: rest) a w :=
  wpList_plain hgd fun _ hK => by
    unfold Oper.wp execOp
    have hb : Tryz.prog.built 30 (#[(1, a.eval x), (2, a.eval y), (3, a.eval z)] : Array (Nat × Value)).toList = some (cO ⟨false, l, h, n⟩) := by rw [hx, hy, hz]; exact built29 l h n h8
    simp only [ho, Sem.run_bind, List.map_toArray, List.map_cons, List.map_nil, run_build w 30 _ _ hb, Result.andThen_ok]
    exact hK _ _ hk

theorem wp_build29n {ops : Array Oper} {rest : List Oper} {o : Oper} {a : Act} {w : World} {Q : Exit → Act → World → Prop} (hgd : o.guard = none) (x : Operand) (ho : o.op = .build 30 #[(0, x)])
    (hx : a.eval x = .bool true) (hk : wpList Tryz.prog ops Q rest (a.put o.dst (.agg (cO null0))) w) : wpList Tryz.prog ops Q (o :: rest) a w :=
  wpList_plain hgd fun _ hK => by
    unfold Oper.wp execOp
    have hb : Tryz.prog.built 30 (#[(0, a.eval x)] : Array (Nat × Value)).toList = some (cO null0) := by rw [hx]; exact built29n
    simp only [ho, Sem.run_bind, List.map_toArray, List.map_cons, List.map_nil, run_build w 30 _ _ hb, Result.andThen_ok]
    exact hK _ _ hk

theorem wp_build27 {ops : Array Oper} {rest : List Oper} {o : Oper} {a : Act} {w : World} {Q : Exit → Act → World → Prop} (hgd : o.guard = none) (x y z s : Operand) (ho : o.op = .build 27 #[(0, x), (3, y), (4, z), (5, s)]) (l : T) (h : H) (n : Int) (sa : Option Addr) (sn sc : Nat)
    (hx : a.eval x = .string (tb l)) (hy : a.eval y = .agg h.cells) (hz : a.eval z = .int .i64 n) (hs : a.eval s = .slice sa sn sc) (h8 : h.p.length = 8) (hk : wpList Tryz.prog ops Q rest (a.put o.dst (.agg (cU ⟨l, [], [], h, n, [[]], [], [], [], false, false⟩ (.slice sa sn sc)))) w) : wpList Tryz.prog ops Q (o :: rest) a w :=
  wpList_plain hgd fun _ hK => by
    unfold Oper.wp execOp
    have hb : Tryz.prog.built 27 (#[(0, a.eval x), (3, a.eval y), (4, a.eval z), (5, a.eval s)] : Array (Nat × Value)).toList = some (cU ⟨l, [], [], h, n, [[]], [], [], [], false, false⟩ (.slice sa sn sc)) := by rw [hx, hy, hz, hs]; exact built27 l h n sa sn sc h8
    simp only [ho, Sem.run_bind, List.map_toArray, List.map_cons, List.map_nil, run_build w 27 _ _ hb, Result.andThen_ok]
    exact hK _ _ hk
/-! ### Compared -/

theorem eq22n (d : Nat) (p q : List Int) (hp : p.length = 8) (hq : q.length = 8) (w : World) : (Op.equalIn (d + 3) 22 (.agg (arr p)) (.agg (arr q))).run Tryz.prog w = .ok (decide (p = q)) w := by
  obtain ⟨i, hi⟩ : ∃ i, Tryz.prog.info? 3 = some i := by
    cases e : Tryz.prog.info? 3 with
    | some i => exact ⟨i, rfl⟩
    | none =>
      have : (Tryz.prog.info? 3).isSome = true := by kernel_rfl
      rw [e] at this
      cases this
  rw [show d + 3 = (d + 2) + 1 from rfl, run_equalIn_array w (d + 2) (arr p) (arr q) Tryz.underlying22 hi, show Tryz.prog.cellsOf 3 = 1 by kernel_rfl, Six.items3 (d + 1) p q (by omega) _ (by intro j hj; simp at hj; omega)]
  congr 1
  match p, hp, q, hq with
  | [a0, a1, a2, a3, a4, a5, a6, a7], _, [b0, b1, b2, b3, b4, b5, b6, b7], _ => simp [List.range, List.range.loop]; rfl

theorem eq24n (d : Nat) (h k : H) (h8 : h.p.length = 8) (k8 : k.p.length = 8) (w : World) : (Op.equalIn (d + 4) 24 (.agg h.cells) (.agg k.cells)).run Tryz.prog w = .ok (sameH h k) w := by
  have hf : (Tryz.prog.fieldsOf 24).toList = [{ name := "Kind", type := 3, offset := 0, embedded := false, tag := "", pkgPath := "", byteOffset := 0 }, { name := "Name", type := 9, offset := 1, embedded := false, tag := "", pkgPath := "", byteOffset := 8 }, { name := "Num", type := 3, offset := 2, embedded := false, tag := "", pkgPath := "", byteOffset := 24 }, { name := "Six", type := 22, offset := 3, embedded := false, tag := "", pkgPath := "", byteOffset := 32 }] := by
    unfold Program.fieldsOf
    rw [Tryz.underlying24]
  rw [show d + 4 = (d + 3) + 1 from rfl, run_equalIn_struct w (d + 3) 24 _ _ (by kernel_rfl) (by kernel_rfl), hf]
  have e3 : ∀ u : World, (Op.equalIn (d + 3) 3 (.int .i64 h.k) (.int .i64 k.k)).run Tryz.prog u = .ok (h.k == k.k) u := fun u => run_equalIn_int u (d + 2) 3 .i64 .i64 _ _ Tryz.underlying3
  have e3' : ∀ u : World, (Op.equalIn (d + 3) 3 (.int .i64 h.n) (.int .i64 k.n)).run Tryz.prog u = .ok (h.n == k.n) u := fun u => run_equalIn_int u (d + 2) 3 .i64 .i64 _ _ Tryz.underlying3
  have e9 : ∀ u : World, (Op.equalIn (d + 3) 9 (.string h.s) (.string k.s)).run Tryz.prog u = .ok (h.s.toList == k.s.toList) u := fun u => run_equalIn_string u (d + 2) 9 _ _ Tryz.underlying9
  have e22 := eq22n d h.p k.p h8 k8
  have q1 := part_p h h8
  have q2 := part_p k k8
  have n1 : ("Kind" : String) ≠ "_" := by decide
  have n2 : ("Name" : String) ≠ "_" := by decide
  have n3 : ("Num" : String) ≠ "_" := by decide
  have n4 : ("Six" : String) ≠ "_" := by decide
  unfold sameH
  generalize (h.k == k.k) = b1 at e3 ⊢
  generalize (h.n == k.n) = b2 at e3' ⊢
  generalize (h.s.toList == k.s.toList) = b3 at e9 ⊢
  generalize decide (h.p = k.p) = b4 at e22 ⊢
  simp only [Op.eqFields, if_pos n1, if_pos n2, if_pos n3, if_pos n4, Sem.run_bind, part_k, part_n, part_s, q1, q2, Result.andThen_ok, e3]
  cases b1 <;> cases b2 <;> cases b3 <;> cases b4 <;> simp [part_n, part_s, q1, q2, e3', e9, e22]

theorem cO_ex (o : O) (h8 : o.h.p.length = 8) : (cO o).extract 2 13 = o.h.cells := by
  obtain ⟨b, sch, ⟨k, s, n, p⟩, port⟩ := o
  obtain ⟨a, b, c, d, e, f, g, i, rfl⟩ := eight h8
  rfl

theorem opart_q (o : O) (h8 : o.h.p.length = 8) (w : World) : (part 4 (cO o) 0).run Tryz.prog w = .ok (.bool o.opaq) w := by
  have ha : (isAgg 4).run Tryz.prog w = .ok false w := by kernel_rfl
  simp [part, Sem.run_bind, ha, (cO_at o h8).1]

theorem opart_s (o : O) (h8 : o.h.p.length = 8) (w : World) : (part 9 (cO o) 1).run Tryz.prog w = .ok (.string (tb o.sch)) w := by
  have ha : (isAgg 9).run Tryz.prog w = .ok false w := by kernel_rfl
  simp [part, Sem.run_bind, ha, (cO_at o h8).2.1]

theorem opart_n (o : O) (h8 : o.h.p.length = 8) (w : World) : (part 3 (cO o) 13).run Tryz.prog w = .ok (.int .i64 o.port) w := by
  have ha : (isAgg 3).run Tryz.prog w = .ok false w := by kernel_rfl
  simp [part, Sem.run_bind, ha, (cO_at o h8).2.2]

theorem opart_h (o : O) (h8 : o.h.p.length = 8) (w : World) : (part 24 (cO o) 2).run Tryz.prog w = .ok (.agg o.h.cells) w := by
  have ha : (isAgg 24).run Tryz.prog w = .ok true w := by kernel_rfl
  have hs : (sizeOf 24).run Tryz.prog w = .ok 11 w := by kernel_rfl
  simp [part, Sem.run_bind, ha, hs, cO_ex o h8]

theorem eq29 (a b : O) (h8 : a.h.p.length = 8) (k8 : b.h.p.length = 8) (r : Bool) (hr : eqO a b = r) (w : World) : (Op.equalIn 10000 30 (.agg (cO a)) (.agg (cO b))).run Tryz.prog w = .ok r w := by
  have hf : (Tryz.prog.fieldsOf 30).toList = [{ name := "Opaque", type := 4, offset := 0, embedded := false, tag := "", pkgPath := "", byteOffset := 0 }, { name := "Scheme", type := 9, offset := 1, embedded := false, tag := "", pkgPath := "", byteOffset := 8 }, { name := "Host", type := 24, offset := 2, embedded := false, tag := "", pkgPath := "", byteOffset := 24 }, { name := "Port", type := 3, offset := 13, embedded := false, tag := "", pkgPath := "", byteOffset := 120 }] := by
    unfold Program.fieldsOf
    rw [Tryz.underlying30]
  subst hr
  rw [show (10000 : Nat) = 9999 + 1 from rfl, run_equalIn_struct w 9999 30 _ _ (by kernel_rfl) (by kernel_rfl), hf]
  have e4 : ∀ u : World, (Op.equalIn 9999 4 (.bool a.opaq) (.bool b.opaq)).run Tryz.prog u = .ok (a.opaq == b.opaq) u := fun u => run_equalIn_bool u 9998 4 _ _ Tryz.underlying4
  have e3 : ∀ u : World, (Op.equalIn 9999 3 (.int .i64 a.port) (.int .i64 b.port)).run Tryz.prog u = .ok (a.port == b.port) u := fun u => run_equalIn_int u 9998 3 .i64 .i64 _ _ Tryz.underlying3
  have e9 : ∀ u : World, (Op.equalIn 9999 9 (.string (tb a.sch)) (.string (tb b.sch))).run Tryz.prog u = .ok (a.sch == b.sch) u := fun u => by
    rw [show (9999 : Nat) = 9998 + 1 from rfl, run_equalIn_string u 9998 9 _ _ Tryz.underlying9, Path.tl, Path.tl]
    rfl
  have e24 : ∀ u : World, (Op.equalIn 9999 24 (.agg a.h.cells) (.agg b.h.cells)).run Tryz.prog u = .ok (sameH a.h b.h) u := fun u => eq24n 9995 a.h b.h h8 k8 u
  have a1 := opart_q a h8
  have a2 := opart_s a h8
  have a3 := opart_h a h8
  have a4 := opart_n a h8
  have b1 := opart_q b k8
  have b2 := opart_s b k8
  have b3 := opart_h b k8
  have b4 := opart_n b k8
  have n1 : ("Opaque" : String) ≠ "_" := by decide
  have n2 : ("Scheme" : String) ≠ "_" := by decide
  have n3 : ("Host" : String) ≠ "_" := by decide
  have n4 : ("Port" : String) ≠ "_" := by decide
  unfold eqO
  generalize (a.opaq == b.opaq) = c1 at e4 ⊢
  generalize (a.sch == b.sch) = c2 at e9 ⊢
  generalize (sameH a.h b.h) = c3 at e24 ⊢
  generalize (a.port == b.port) = c4 at e3 ⊢
  simp only [Op.eqFields, if_pos n1, if_pos n2, if_pos n3, if_pos n4, Sem.run_bind, a1, b1, Result.andThen_ok, e4]
  cases c1 <;> cases c2 <;> cases c3 <;> cases c4 <;> simp [a2, a3, a4, b2, b3, b4, e9, e24, e3]

end Go.Proofs.YtlkikfdbjpjpaaaGreatDoor.Origin
