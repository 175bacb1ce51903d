/-
  Arrays of eight ints on the heap; low(p).
-/
import Derived.Test.YtgfhjigalefkmaaDoorSShown
import Derived.Test.YtgfhjigalefkmaaDoorShelf
import Derived.Laws.BitsAllLaws
import Derived.BigRegion
import Derived.BigQuiet
import Derived.Deep.RegionWith
namespace Go.Proofs.YtgfhjigalefkmaaDoor.Six
open Go.RowKit
set_option linter.unusedSimpArgs false
set_option linter.unusedVariables false
/-- A row of ints as an array's cells. -/
def arr (l : List Int) : Array Value := (l.map (Value.int .i64)).toArray
theorem arr_size (l : List Int) : (arr l).size = l.length := by simp [arr]
theorem arr_at (l : List Int) (j : Nat) (h : j < l.length) : (arr l)[j]? = some (.int .i64 l[j]) := by simp [arr, h]
theorem arr_one (l : List Int) : (arr l).all (·.oneCell') = true := by
  rw [Array.all_eq_true_iff_forall_mem]
  intro v hv
  simp [arr] at hv
  obtain ⟨z, _, rfl⟩ := hv
  rfl
/-- Block g is an array of these. -/
def RowAt (W : World) (g : Nat) (l : List Int) : Prop := W.heap[g]? = some (.cells (arr l) 22 (0, 0))
theorem RowAt.cell {W : World} {g : Nat} {l : List Int} (h : RowAt W g l) (j : Nat) (hj : j < l.length) : W.cell? ⟨g, j, none⟩ = some (.int .i64 l[j]) := by
  rw [cell_of_row W g j (arr l) 22 (0, 0) h, arr_at l j hj]
theorem RowAt.frozen {W : World} {g : Nat} {l : List Int} (h : RowAt W g l) (j : Nat) : W.frozen? ⟨g, j, none⟩ = false := by
  unfold World.frozen?
  rw [show W.heap[(⟨g, j, none⟩ : Addr).block]? = _ from h]
  simp
theorem arr_set (l : List Int) (j : Nat) (z : Int) : (arr l).set! j (.int .i64 z) = arr (l.set j z) := by
  simp [arr]
theorem RowAt.set {W : World} {g : Nat} {l : List Int} (h : RowAt W g l) (j : Nat) (z : Int) : RowAt (W.setCell ⟨g, j, none⟩ (.int .i64 z)) g (l.set j z) := by
  unfold RowAt at *
  simp [World.setCell, Array.getElem?_modify, h, arr]
theorem RowAt.setOther {W : World} {g b : Nat} {l : List Int} (h : RowAt W g l) (hb : g ≠ b) (j : Nat) (v : Value) : RowAt (W.setCell ⟨b, j, none⟩ v) g l := (Below.heap_setCell W ⟨b, j, none⟩ v g hb).trans h
theorem RowAt.row {W : World} {g : Nat} {l : List Int} (h : RowAt W g l) (k : List Int) : RowAt (W.setRow g (arr k)) g k := setRow_heap W g _ _ 22 (0, 0) h
theorem RowAt.rowOther {W : World} {g b : Nat} {l : List Int} (h : RowAt W g l) (hb : g ≠ b) (k : Array Value) : RowAt (W.setRow b k) g l := by
  unfold RowAt at *
  simp [World.setRow, Array.getElem?_modify, h, Ne.symm hb]
theorem RowAt.new (w : World) (l : List Int) : RowAt (w.alloc (.cells (arr l) 22)) w.heap.size l := heap_alloc_new w _
theorem RowAt.lt {w : World} {g : Nat} {l : List Int} (h : RowAt w g l) : g < w.heap.size := (Array.getElem?_eq_some_iff.1 h).1
theorem RowAt.past {w : World} {g : Nat} {l : List Int} (h : RowAt w g l) (o : Obj) : RowAt (w.alloc o) g l := (heap_alloc_old w o h.lt).trans h
theorem RowAt.drew {w : World} {g : Nat} {l : List Int} (h : RowAt w g l) : RowAt w.drew g l := h
theorem RowAt.below {w u : World} {B g : Nat} {l : List Int} (h : RowAt w g l) (hB : Below B w u) (hg : g < B) : RowAt u g l := (hB.block g hg).trans h
theorem RowAt.later {w u : World} {g : Nat} {l : List Int} (h : RowAt w g l) (hB : Below w.heap.size w u) : RowAt u g l := h.below hB h.lt
theorem below_setRow {B : Nat} {a w : World} (h : Below B a w) {g : Nat} (hp : B ≤ g) (k : Array Value) : Below B a (w.setRow g k) :=
  h.trans ⟨rfl, rfl, rfl, by simp [World.setRow], fun j hj => by simp [World.setRow, Array.getElem?_modify, show g ≠ j by omega]⟩
theorem size22 : (Tryd.prog.info? 22).map (·.size) = some 8 := by kernel_rfl
theorem RowAt.load {w : World} {g : Nat} {l : List Int} (h : RowAt w g l) (h8 : l.length = 8) : (loadVar 22 ⟨g, 0, none⟩).run Tryd.prog w = .ok (.agg (arr l)) w :=
  run_loadVar_row w g 22 22 (arr l) (0, 0) _ h Tryd.underlying22 rfl (by rw [arr_size, h8]; exact size22)
theorem RowAt.store {w : World} {g : Nat} {l : List Int} (h : RowAt w g l) (h8 : l.length = 8) (k : List Int) (k8 : k.length = 8) : (storeVar 22 ⟨g, 0, none⟩ (.agg (arr k))).run Tryd.prog w = .ok () (w.setRow g (arr k)) :=
  run_storeVar_row w g 22 22 (arr l) (arr k) h (by rw [arr_size, k8]; exact size22) (by rw [arr_size, arr_size, h8, k8]) (arr_one k)
theorem wp_load22 {ops : Array Oper} {rest : List Oper} {o : Oper} {a : Act} {w : World} {Q : Exit → Act → World → Prop} (hgd : o.guard = none) (x : Operand) (ho : o.op = .load 22 x) (g : Nat) (hx : a.eval x = .pointer (some ⟨g, 0, none⟩))
    (l : List Int) (h8 : l.length = 8) (hr : RowAt w g l) (h : wpList Tryd.prog ops Q rest (a.put o.dst (.agg (arr l))) w) : wpList Tryd.prog ops Q (o :: rest) a w :=
  wpList_load_row hgd 22 x ho g hx 22 (arr l) (0, 0) _ hr Tryd.underlying22 rfl (by rw [arr_size, h8]; exact size22) h
theorem wp_store22 {ops : Array Oper} {rest : List Oper} {o : Oper} {a : Act} {w : World} {Q : Exit → Act → World → Prop} (hgd : o.guard = none) (x y : Operand) (ho : o.op = .store 22 x y) (g : Nat) (hx : a.eval x = .pointer (some ⟨g, 0, none⟩))
    (k : List Int) (hy : a.eval y = .agg (arr k)) (k8 : k.length = 8) (l : List Int) (h8 : l.length = 8) (hr : RowAt w g l) (h : wpList Tryd.prog ops Q rest (a.put o.dst undef) (w.setRow g (arr k))) : wpList Tryd.prog ops Q (o :: rest) a w :=
  wpList_plain hgd fun _ hK => wp_store_row 22 x y ho g (arr k) hx hy 22 (arr l) hr (by rw [arr_size, k8]; exact size22) (by rw [arr_size, arr_size, h8, k8]) (arr_one k) (hK _ _ h)
theorem zero_arr : (#[.int .i64 0, .int .i64 0, .int .i64 0, .int .i64 0, .int .i64 0, .int .i64 0, .int .i64 0, .int .i64 0] : Array Value) = arr zero8 := rfl

theorem i64_and16 (n : Int) : bits .and .i64 n 65535 = n % 65536 := by
  have h255 : (BitVec.ofInt 64 65535).toNat = 2 ^ 16 - 1 := by decide
  have key : (BitVec.ofInt 64 n &&& BitVec.ofInt 64 65535).toNat = (n % ((2 ^ 64 : Nat) : Int)).toNat % 2 ^ 16 := by
    rw [BitVec.toNat_and, BitVec.toNat_ofInt, h255, Nat.and_two_pow_sub_one_eq_mod]
  show IntKind.i64.wrap ((BitVec.ofInt 64 n &&& BitVec.ofInt 64 65535).toNat : Nat) = n % 65536
  rw [key, IntKind.wrap_i64]
  omega
def low (p : List Int) : List Int := p.map (· % 65536)
def lowTo (p : List Int) (k : Nat) : List Int := low (p.take k) ++ p.drop k
theorem lowTo_len (p : List Int) (k : Nat) (h : k ≤ p.length) : (lowTo p k).length = p.length := by simp [lowTo, low]; omega
theorem lowTo_at (p : List Int) (k : Nat) (h : k < p.length) (h' : k < (lowTo p k).length) : (lowTo p k)[k] = p[k] := by
  have e : (low (p.take k)).length = k := by simp [low]; omega
  have h1 : (lowTo p k)[k]? = some p[k] := by
    unfold lowTo
    rw [List.getElem?_append_right (by omega), e, Nat.sub_self, List.getElem?_drop, Nat.add_zero, List.getElem?_eq_getElem h]
  rw [List.getElem?_eq_getElem h'] at h1
  exact Option.some.inj h1
theorem lowTo_set (p : List Int) (k : Nat) (h : k < p.length) : (lowTo p k).set k (p[k] % 65536) = lowTo p (k + 1) := by
  have e : (low (p.take k)).length = k := by simp [low]; omega
  unfold lowTo
  rw [List.set_append_right _ _ (by omega), e, Nat.sub_self, List.drop_eq_getElem_cons h, List.set_cons_zero, List.take_succ_eq_append_getElem h]
  simp only [low, List.map_append, List.map_cons, List.map_nil, List.append_assoc, List.cons_append, List.nil_append]
theorem lowTo_all (p : List Int) (h : p.length = 8) : lowTo p 8 = low p := by unfold lowTo; rw [List.take_of_length_le (by omega), List.drop_eq_nil_of_le (by omega), List.append_nil]

set_option maxRecDepth 100000 in
set_option maxHeartbeats 2000000 in
theorem low_any (p : List Int) (h8 : p.length = 8) (w : World) : Calls Tryd.prog 23 #[.agg (arr p)] w fun e w' => e = .returned (.agg (arr (low p))) ∧ Below w.heap.size w w' := by
  have hB0 : Below w.heap.size w ((w.alloc (.cells (arr p) 22)).alloc (.cells (arr zero8) 22)) := ((Below.refl _ w).alloc (Nat.le_refl _) _).alloc (by simp) _
  have hR0 : RowAt ((w.alloc (.cells (arr p) 22)).alloc (.cells (arr zero8) 22)) w.heap.size (lowTo p 0) := (RowAt.new w p).past _
  have hZ0 : RowAt ((w.alloc (.cells (arr p) 22)).alloc (.cells (arr zero8) 22)) (w.heap.size + 1) zero8 := by
    have := RowAt.new (w.alloc (.cells (arr p) 22)) zero8
    simpa using this
  have H8 := Lib.hid h8
  have HC := Lib.hid (show (arr p).size = 8 by rw [arr_size, h8])
  clear h8
  go_enter Tryd.func23, Tryd.ntmps23
  go_wp2
  rw [zero_arr]
  go_loopw [3, 4] (fun _ i wr => ∃ k : Nat, k ≤ 8 ∧ i = .int .i64 k ∧ Hid (RowAt wr w.heap.size (lowTo p k)) ∧ Hid (RowAt wr (w.heap.size + 1) zero8) ∧ Below w.heap.size w wr) (fun _ i _ => 8 - (intOf i).toNat)
  case atStart => exact ⟨0, Nat.zero_le _, rfl, Lib.hid hR0, Lib.hid hZ0, hB0⟩
  case round =>
    clear hR0 hZ0 hB0
    obtain ⟨k, hk, rfl, HR, HZ, hw⟩ := hrel
    by_cases hlt : k < 8
    · have t1 : (k : Int) < 8 := by omega
      have hkp : k < p.length := by have := H8.out; omega
      have hkl : k < (lowTo p k).length := by rw [lowTo_len _ _ (by omega)]; exact hkp
      have hc := HR.out.cell k hkl
      rw [lowTo_at p k hkp] at hc
      have hf := HR.out.frozen k
      have HS := Lib.hid (show ∀ z, z = p[k] → (lowTo p k).set k (z % 65536) = lowTo p (k + 1) from fun z hz => by rw [hz]; exact lowTo_set p k hkp)
      obtain ⟨z, hz⟩ : ∃ z, z = p[k] := ⟨_, rfl⟩
      rw [← hz] at hc
      have HS2 := Lib.hid (HS.out z hz)
      have hand := i64_and16 z
      clear hz HS hkp hkl
      go_wp2
      go_roundw
      case rel =>
        refine ⟨k + 1, by omega, by go_num, Lib.hid ?_, Lib.hid ?_, hw.setCell (p := ⟨w.heap.size, k, none⟩) (Nat.le_refl _) _⟩
        · rw [← HS2.out]
          exact HR.out.set k _
        · exact HZ.out.setOther (by omega) _ _
      case measure => simp [intOf]; omega
    · obtain rfl : k = 8 := by omega
      have hR := HR.out
      rw [lowTo_all p H8.out] at hR
      have hl8 : (low p).length = 8 := by simp [low]; exact H8.out
      have HL8 := Lib.hid hl8
      have HR2 := Lib.hid hR
      have HW := Lib.hid (HZ.out.row (low p))
      have hB := Lib.hid (below_setRow hw (show w.heap.size ≤ w.heap.size + 1 by omega) (arr (low p)))
      clear hR hl8
      go_wp2_with (first | refine wp_load22 rfl _ rfl _ rfl (low p) HL8.out HR2.out ?_ | refine wp_store22 rfl _ _ rfl _ rfl (low p) rfl HL8.out zero8 rfl HZ.out ?_)
      refine bodyPost_ret (results_cell_row Tryd.results23 _ _ _ 22 (arr (low p)) (0, 0) _ rfl HW.out Tryd.underlying22 rfl (by rw [arr_size, HL8.out]; exact size22)) rfl ⟨rfl, hB.out⟩

end Go.Proofs.YtgfhjigalefkmaaDoor.Six
