/-
  Requests (api.Req), as values and on the heap: whole, their addresses and origins, and their single parts.
-/
import Derived.Test.YtlkikfdbjpjpaaaGreatDoorOAwake
namespace Go.Proofs.YtlkikfdbjpjpaaaGreatDoor.Req
set_option linter.unusedSimpArgs false
set_option linter.unusedVariables false
set_option maxRecDepth 100000


open Go.RowKit Go.Shelf

open Url Show Origin

open Host (H none0)

open Path (Strs)

set_option maxRecDepth 100000

structure R where
  url : U
  mth : T
  body : Bool
  o : O
  mode : Int
  red : Int
  pol : Int
  ref : T
  tnt : Bool
  crs : Bool
  cnt : Int

/-- A request's cells; hv: its fields. -/
def cR (q : R) (pv hv : Value) : Array Value :=
  cU q.url pv ++ (#[.string (tb q.mth), hv, .bool q.body] ++ (cO q.o ++ #[.int .i64 q.mode, .int .i64 q.red, .int .i64 q.pol, .string (tb q.ref), .bool q.tnt, .bool q.crs, .int .i64 q.cnt]))

/-- The hosts' rows are of eight. -/
structure R8 (q : R) : Prop where
  u : q.url.h.p.length = 8
  o : q.o.h.p.length = 8

theorem cR_size (q : R) (pv hv : Value) (h : R8 q) : (cR q pv hv).size = 45 := by
  unfold cR
  simp only [Array.size_append, cU_size q.url pv h.u, cO_size q.o h.o]
  rfl

theorem cR_one (q : R) (pv hv : Value) (hp : pv.oneCell' = true) (hh : hv.oneCell' = true) : (cR q pv hv).all (·.oneCell') = true := by
  unfold cR
  have h1 : (#[.string (tb q.mth), hv, .bool q.body] : Array Value).all (·.oneCell') = true := by
    rw [Array.all_eq_true_iff_forall_mem]
    intro v hv'
    simp only [List.mem_toArray, List.mem_cons, List.not_mem_nil, or_false] at hv'
    rcases hv' with rfl | rfl | rfl
    · rfl
    · exact hh
    · rfl
  rw [Array.all_append, Array.all_append, Array.all_append, cU_one q.url pv hp, cO_one q.o, h1]
  simp [Value.oneCell']

theorem cR_url (q : R) (pv hv : Value) (h : R8 q) (j : Nat) (hj : j < 21) : (cR q pv hv)[0 + j]? = (cU q.url pv)[j]? := by
  unfold cR
  rw [Nat.zero_add, Array.getElem?_append_left (by rw [cU_size q.url pv h.u]; exact hj)]

theorem cR_tail (q : R) (pv hv : Value) (h : R8 q) (j : Nat) : (cR q pv hv)[21 + j]? = (#[.string (tb q.mth), hv, .bool q.body] ++ (cO q.o ++ #[.int .i64 q.mode, .int .i64 q.red, .int .i64 q.pol, .string (tb q.ref), .bool q.tnt, .bool q.crs, .int .i64 q.cnt]) : Array Value)[j]? := by
  unfold cR
  rw [Array.getElem?_append_right (by rw [cU_size q.url pv h.u]; omega), cU_size q.url pv h.u, Nat.add_sub_cancel_left]

theorem cR_org (q : R) (pv hv : Value) (h : R8 q) (j : Nat) (hj : j < 14) : (cR q pv hv)[24 + j]? = (cO q.o)[j]? := by
  rw [show 24 + j = 21 + (3 + j) by omega, cR_tail q pv hv h, Array.getElem?_append_right (by simp)]
  rw [show 3 + j - (#[.string (tb q.mth), hv, .bool q.body] : Array Value).size = j by simp, Array.getElem?_append_left (by rw [cO_size q.o h.o]; exact hj)]

theorem cR_end (q : R) (pv hv : Value) (h : R8 q) (j : Nat) : (cR q pv hv)[38 + j]? = (#[.int .i64 q.mode, .int .i64 q.red, .int .i64 q.pol, .string (tb q.ref), .bool q.tnt, .bool q.crs, .int .i64 q.cnt] : Array Value)[j]? := by
  rw [show 38 + j = 21 + (3 + (14 + j)) by omega, cR_tail q pv hv h, Array.getElem?_append_right (by simp)]
  rw [show 3 + (14 + j) - (#[.string (tb q.mth), hv, .bool q.body] : Array Value).size = 14 + j by simp, Array.getElem?_append_right (by rw [cO_size q.o h.o]; omega), cO_size q.o h.o, Nat.add_sub_cancel_left]

/-- The single parts: the method, the fields, the body, the mode, the redirects, the policy, where from, tainted, crossed, how many. -/
theorem cR_at (q : R) (pv hv : Value) (h : R8 q) : (cR q pv hv)[21]? = some (.string (tb q.mth)) ∧ (cR q pv hv)[22]? = some hv ∧ (cR q pv hv)[23]? = some (.bool q.body) ∧ (cR q pv hv)[38]? = some (.int .i64 q.mode) ∧ (cR q pv hv)[39]? = some (.int .i64 q.red) ∧ (cR q pv hv)[40]? = some (.int .i64 q.pol) ∧
    (cR q pv hv)[41]? = some (.string (tb q.ref)) ∧ (cR q pv hv)[42]? = some (.bool q.tnt) ∧ (cR q pv hv)[43]? = some (.bool q.crs) ∧ (cR q pv hv)[44]? = some (.int .i64 q.cnt) :=
  ⟨(cR_tail q pv hv h 0).trans (by rw [Array.getElem?_append_left (by simp)]; rfl), (cR_tail q pv hv h 1).trans (by rw [Array.getElem?_append_left (by simp)]; rfl), (cR_tail q pv hv h 2).trans (by rw [Array.getElem?_append_left (by simp)]; rfl),
   cR_end q pv hv h 0, cR_end q pv hv h 1, cR_end q pv hv h 2, cR_end q pv hv h 3, cR_end q pv hv h 4, cR_end q pv hv h 5, cR_end q pv hv h 6⟩

theorem size32 : (Tryz.prog.info? 32).map (·.size) = some 45 := by kernel_rfl

def RAt (W : World) (g : Nat) (q : R) (pv hv : Value) : Prop := W.heap[g]? = some (.cells (cR q pv hv) 32 (0, 0))

theorem RAt.lt {w : World} {g : Nat} {q : R} {pv hv : Value} (a : RAt w g q pv hv) : g < w.heap.size := (Array.getElem?_eq_some_iff.1 a).1

theorem RAt.new (w : World) (q : R) (pv hv : Value) : RAt (w.alloc (.cells (cR q pv hv) 32)) w.heap.size q pv hv := heap_alloc_new w _

theorem RAt.past {w : World} {g : Nat} {q : R} {pv hv : Value} (a : RAt w g q pv hv) (x : Obj) : RAt (w.alloc x) g q pv hv := (heap_alloc_old w x a.lt).trans a

theorem RAt.row {W : World} {g : Nat} {q : R} {pv hv : Value} (a : RAt W g q pv hv) (k : R) (qv kv : Value) : RAt (W.setRow g (cR k qv kv)) g k qv kv := setRow_heap W g _ _ 32 (0, 0) a

theorem RAt.later {w v : World} {g : Nat} {q : R} {pv hv : Value} (a : RAt w g q pv hv) (hB : Below w.heap.size w v) : RAt v g q pv hv := (hB.block g a.lt).trans a

theorem RAt.cell {w : World} {g : Nat} {q : R} {pv hv : Value} (a : RAt w g q pv hv) (j : Nat) : w.cell? ⟨g, j, none⟩ = (cR q pv hv)[j]? := cell_of_row w g j (cR q pv hv) 32 (0, 0) a

/-- Cells that lie within a block, as an aggregate of their own. -/
theorem load_part {w : World} {g : Nat} {t : TypeId} {cs : Array Value} {fr : Nat × Nat} (h : w.heap[g]? = some (.cells cs t fr)) (ty : TypeId) (n off : Nat) (l : Array Value) (hs : l.size = n) (hl : ∀ j, j < n → cs[off + j]? = l[j]?)
    (hagg : (isAgg ty).run Tryz.prog w = .ok true w) (hsz : (sizeOf ty).run Tryz.prog w = .ok n w) : (loadVar ty ⟨g, off, none⟩).run Tryz.prog w = .ok (.agg l) w := by
  have hl : (loadCells ⟨g, off, none⟩ l.toList.length).run Tryz.prog w = .ok l.toList.toArray w :=
    run_loadCells_list (P := Tryz.prog) w ⟨g, off, none⟩ l.toList (fun j v hv => by
      have hadd : (⟨g, off, none⟩ : Addr).add j = ⟨g, off + j, none⟩ := by unfold Addr.add; split <;> simp_all
      have hj : j < n := by have := (List.getElem?_eq_some_iff.1 hv).1; rwa [Array.length_toList, hs] at this
      rw [hadd, cell_of_row w g (off + j) cs t fr h, hl j hj]
      simpa using hv)
  have hlen : l.toList.length = n := by rw [Array.length_toList, hs]
  rw [hlen] at hl
  simp [loadVar, Sem.run_bind, hagg, hsz, hl]

theorem RAt.load {w : World} {g : Nat} {q : R} {pv hv : Value} (a : RAt w g q pv hv) (h : R8 q) : (loadVar 32 ⟨g, 0, none⟩).run Tryz.prog w = .ok (.agg (cR q pv hv)) w :=
  load_part a 32 45 0 _ (cR_size q pv hv h) (fun j _ => by rw [Nat.zero_add]) (by kernel_rfl) (by kernel_rfl)

theorem RAt.url {w : World} {g : Nat} {q : R} {pv hv : Value} (a : RAt w g q pv hv) (h : R8 q) : (loadVar 27 ⟨g, 0, none⟩).run Tryz.prog w = .ok (.agg (cU q.url pv)) w :=
  load_part a 27 21 0 _ (cU_size q.url pv h.u) (cR_url q pv hv h) (by kernel_rfl) (by kernel_rfl)

theorem RAt.org {w : World} {g : Nat} {q : R} {pv hv : Value} (a : RAt w g q pv hv) (h : R8 q) : (loadVar 30 ⟨g, 24, none⟩).run Tryz.prog w = .ok (.agg (cO q.o)) w :=
  load_part a 30 14 24 _ (cO_size q.o h.o) (cR_org q pv hv h) (by kernel_rfl) (by kernel_rfl)

theorem wp_load32 {ops : Array Oper} {rest : List Oper} {o : Oper} {a : Act} {w : World} {Q : Exit → Act → World → Prop} (hgd : Region.wanted o (yielded ops a.tmps) = true) (x : Operand) (ho : o.op = .load 32 x) (g : Nat) (hx : a.eval x = .pointer (some ⟨g, 0, none⟩))
    (q : R) (pv hv : Value) (h8 : R8 q) (hr : RAt w g q pv hv) (hk : wpList Tryz.prog ops Q rest (a.put o.dst (.agg (cR q pv hv))) w) : wpList Tryz.prog ops Q (o :: rest) a w :=
  Host.wp_load_at hgd 32 x ho ⟨g, 0, none⟩ hx (.agg (cR q pv hv)) (hr.load h8) hk

theorem wp_load27r {ops : Array Oper} {rest : List Oper} {o : Oper} {a : Act} {w : World} {Q : Exit → Act → World → Prop} (hgd : Region.wanted o (yielded ops a.tmps) = true) (x : Operand) (ho : o.op = .load 27 x) (g : Nat) (hx : a.eval x = .pointer (some ⟨g, 0, none⟩))
    (q : R) (pv hv : Value) (h8 : R8 q) (hr : RAt w g q pv hv) (hk : wpList Tryz.prog ops Q rest (a.put o.dst (.agg (cU q.url pv))) w) : wpList Tryz.prog ops Q (o :: rest) a w :=
  Host.wp_load_at hgd 27 x ho ⟨g, 0, none⟩ hx (.agg (cU q.url pv)) (hr.url h8) hk

theorem wp_load29r {ops : Array Oper} {rest : List Oper} {o : Oper} {a : Act} {w : World} {Q : Exit → Act → World → Prop} (hgd : Region.wanted o (yielded ops a.tmps) = true) (x : Operand) (ho : o.op = .load 30 x) (g : Nat) (hx : a.eval x = .pointer (some ⟨g, 24, none⟩))
    (q : R) (pv hv : Value) (h8 : R8 q) (hr : RAt w g q pv hv) (hk : wpList Tryz.prog ops Q rest (a.put o.dst (.agg (cO q.o))) w) : wpList Tryz.prog ops Q (o :: rest) a w :=
  Host.wp_load_at hgd 30 x ho ⟨g, 24, none⟩ hx (.agg (cO q.o)) (hr.org h8) hk

theorem wp_store32 {ops : Array Oper} {rest : List Oper} {o : Oper} {a : Act} {w : World} {Q : Exit → Act → World → Prop} (hgd : o.guard = none) (x y : Operand) (ho : o.op = .store 32 x y) (g : Nat) (hx : a.eval x = .pointer (some ⟨g, 0, none⟩))
    (k : R) (qv kv : Value) (hy : a.eval y = .agg (cR k qv kv)) (k8 : R8 k) (hq : qv.oneCell' = true) (hkv : kv.oneCell' = true) (l : R) (pv hv : Value) (h8 : R8 l) (hr : RAt w g l pv hv) (h : wpList Tryz.prog ops Q rest (a.put o.dst undef) (w.setRow g (cR k qv kv))) : wpList Tryz.prog ops Q (o :: rest) a w :=
  wpList_plain hgd fun _ hK => wp_store_row 32 x y ho g (cR k qv kv) hx hy 32 (cR l pv hv) hr (by rw [cR_size k qv kv k8]; exact size32) (by rw [cR_size k qv kv k8, cR_size l pv hv h8]) (cR_one k qv kv hq hkv) (hK _ _ h)

theorem RAt.free {w : World} {g : Nat} {q : R} {pv hv : Value} (a : RAt w g q pv hv) (j : Nat) : w.frozen? ⟨g, j, none⟩ = false := by
  unfold World.frozen?
  simp only
  rw [show w.heap[g]? = _ from a]
  simp
/-! ## single parts, stored -/

theorem set_tail (a b : Array Value) (j : Nat) (v : Value) (n : Nat) (h : a.size = n) : (a ++ b).setIfInBounds (n + j) v = a ++ b.setIfInBounds j v := by
  apply Array.ext'
  simp only [Array.toList_setIfInBounds, Array.toList_append]
  rw [List.set_append_right _ _ (by rw [Array.length_toList, h]; omega), Array.length_toList, h, Nat.add_sub_cancel_left]

theorem cR_set (q : R) (pv hv : Value) (h : R8 q) (j : Nat) (v : Value) : (cR q pv hv).setIfInBounds (38 + j) v =
    cU q.url pv ++ (#[.string (tb q.mth), hv, .bool q.body] ++ (cO q.o ++ (#[.int .i64 q.mode, .int .i64 q.red, .int .i64 q.pol, .string (tb q.ref), .bool q.tnt, .bool q.crs, .int .i64 q.cnt] : Array Value).setIfInBounds j v)) := by
  unfold cR
  rw [show 38 + j = 21 + (3 + (14 + j)) by omega, set_tail _ _ _ _ 21 (cU_size q.url pv h.u), set_tail _ _ _ _ 3 rfl, set_tail _ _ _ _ 14 (cO_size q.o h.o)]

theorem RAt.mode {w : World} {g : Nat} {q : R} {pv hv : Value} (a : RAt w g q pv hv) (h : R8 q) (x : Int) : RAt (w.setCell ⟨g, 38, none⟩ (.int .i64 x)) g { q with mode := x } pv hv := by
  have := heap_set a 38 (.int .i64 x)
  rw [cR_set q pv hv h 0] at this
  exact this

theorem RAt.pol {w : World} {g : Nat} {q : R} {pv hv : Value} (a : RAt w g q pv hv) (h : R8 q) (x : Int) : RAt (w.setCell ⟨g, 40, none⟩ (.int .i64 x)) g { q with pol := x } pv hv := by
  have := heap_set a 40 (.int .i64 x)
  rw [cR_set q pv hv h 2] at this
  exact this

theorem RAt.tnt {w : World} {g : Nat} {q : R} {pv hv : Value} (a : RAt w g q pv hv) (h : R8 q) (x : Bool) : RAt (w.setCell ⟨g, 42, none⟩ (.bool x)) g { q with tnt := x } pv hv := by
  have := heap_set a 42 (.bool x)
  rw [cR_set q pv hv h 4] at this
  exact this

end Go.Proofs.YtlkikfdbjpjpaaaGreatDoor.Req
