/-
  The map of what hides who asks: the functions by the policies' numbers; what is asked of it.
-/
import Derived.Deep.RegionHeld
import Derived.MapKept
import Derived.Test.YtlkikfdbjpjpaaaGreatDoorTnFacts
import Derived.Test.YtlkikfdbjpjpaaaGreatDoorRqFew
namespace Go.Proofs.YtlkikfdbjpjpaaaGreatDoor.Taint
set_option linter.unusedSimpArgs false
set_option linter.unusedVariables false
set_option maxRecDepth 100000


open Go.RowKit Go.Shelf

open Url Show Origin Req

open Path (Strs)

set_option maxRecDepth 100000

/-- The entries, by the order in which they were laid. -/
def hides (g : Nat) (n : Nat) : Array MapEntry :=
  (([⟨.int .i64 0, .func (.func 72) #[] #[.pointer (some ⟨g, 0, none⟩)], 0⟩, ⟨.int .i64 1, .func (.func 71) #[] #[], 1⟩, ⟨.int .i64 2, .func (.func 72) #[] #[.pointer (some ⟨g, 0, none⟩)], 2⟩, ⟨.int .i64 3, .func (.func 73) #[] #[.pointer (some ⟨g, 0, none⟩)], 3⟩, ⟨.int .i64 5, .func (.func 72) #[] #[.pointer (some ⟨g, 0, none⟩)], 4⟩, ⟨.int .i64 7, .func (.func 72) #[] #[.pointer (some ⟨g, 0, none⟩)], 5⟩] : List MapEntry).take n).toArray

/-- Block b holds the first n of them. -/
def HidesAt (W : World) (b g n : Nat) : Prop := W.heap[b]? = some (.map (hides g n) n)

theorem HidesAt.later {W V : World} {b g n : Nat} (h : HidesAt W b g n) (hB : Below W.heap.size W V) : HidesAt V b g n := (hB.block b (Array.getElem?_eq_some_iff.1 h).1).trans h

theorem HidesAt.made (w : World) (g : Nat) : HidesAt (w.alloc (.map #[] 0)) w.heap.size g 0 := (MapKept.heap_alloc w _).1

theorem int_key {W : World} (k : Int) : (Instr.checkKey false 10000 3 (.int .i64 k)).run Tryz.prog W = .ok () W := MapKept.run_checkKey Tryz.underlying3 (by trivial) _ _

/-- One more. -/
theorem HidesAt.put {W : World} {b g n : Nat} (h : HidesAt W b g n) (k : Int) (v : Value) (hf : Instr.findNow (.int .i64) (.int .i64 k) (hides g n).toList 0 = some none) (hn : (hides g n).push ⟨.int .i64 k, v, n⟩ = hides g (n + 1)) :
    ∃ W', (Instr.mapUpdate 61 (.map (some b)) (.int .i64 k) v).run Tryz.prog W = .ok () W' ∧ HidesAt W' b g (n + 1) ∧ W.grownBy W' (some b) := by
  have h' : W.heap[b]? = some (.map (hides g n) n) := h
  refine ⟨{ W with heap := W.heap.setIfInBounds b (.map (hides g (n + 1)) (n + 1)) }, ?_, (MapKept.heap_set h').1, ?_⟩
  · simp [Instr.mapUpdate, run_underlying Tryz.underlying61, MapKept.run_getObj_map h', int_key, MapKept.run_findKey Tryz.underlying3 hf, MapKept.run_setObj_map _ h', hn, Result.andThen]
  · exact ⟨rfl, rfl, rfl, by simp, fun i _ hi => (MapKept.heap_set h').2 i (fun e => hi (by rw [e]))⟩

/-- What is found at a number: the function, and whether there is one. -/
def hideV (g : Nat) (p : Int) : Value := if p = 0 ∨ p = 2 ∨ p = 5 ∨ p = 7 then .func (.func 72) #[] #[.pointer (some ⟨g, 0, none⟩)] else if p = 1 then .func (.func 71) #[] #[] else if p = 3 then .func (.func 73) #[] #[.pointer (some ⟨g, 0, none⟩)] else .nilFunc

def hideI (p : Int) : Bool := (p == 0) || (p == 1) || (p == 2) || (p == 3) || (p == 5) || (p == 7)

theorem zeroFn (w : World) : (zeroValue 33).run Tryz.prog w = .ok .nilFunc w := by kernel_rfl

theorem HidesAt.ask {W : World} {b g : Nat} (h : HidesAt W b g 6) (p : Int) : (Instr.lookup 61 (.map (some b)) (.int .i64 p) true).run Tryz.prog W = .ok (.tuple #[hideV g p, .bool (hideI p)]) W := by
  have h' : W.heap[b]? = some (.map (hides g 6) 6) := h
  have hz := zeroFn W
  have key : ∀ a, Instr.findNow (.int .i64) (.int .i64 p) (hides g 6).toList 0 = some a → (match a with | some (_, v) => (v, true) | none => (Value.nilFunc, false)) = (hideV g p, hideI p) → (Instr.lookup 61 (.map (some b)) (.int .i64 p) true).run Tryz.prog W = .ok (.tuple #[hideV g p, .bool (hideI p)]) W := by
    intro a ha e
    have he : (hides g 6).isEmpty = false := rfl
    cases a with
    | none =>
      obtain ⟨e1, e2⟩ := Prod.mk.inj e
      simp [Instr.lookup, run_underlying Tryz.underlying61, MapKept.run_getObj_map h', he, int_key, MapKept.run_findKey Tryz.underlying3 ha, hz, Result.andThen, ← e1, ← e2]
    | some x =>
      obtain ⟨e1, e2⟩ := Prod.mk.inj e
      simp [Instr.lookup, run_underlying Tryz.underlying61, MapKept.run_getObj_map h', he, int_key, MapKept.run_findKey Tryz.underlying3 ha, Result.andThen, ← e1, ← e2]
  by_cases h0 : p = 0
  · subst h0
    exact key _ rfl rfl
  by_cases h1 : p = 1
  · subst h1
    exact key _ rfl rfl
  by_cases h2 : p = 2
  · subst h2
    exact key _ rfl rfl
  by_cases h3 : p = 3
  · subst h3
    exact key _ rfl rfl
  by_cases h5 : p = 5
  · subst h5
    exact key _ rfl rfl
  by_cases h7 : p = 7
  · subst h7
    exact key _ rfl rfl
  refine key none ?_ ?_
  · have r0 : (p == 0) = false := beq_eq_false_iff_ne.2 h0
    have r1 : (p == 1) = false := beq_eq_false_iff_ne.2 h1
    have r2 : (p == 2) = false := beq_eq_false_iff_ne.2 h2
    have r3 : (p == 3) = false := beq_eq_false_iff_ne.2 h3
    have r5 : (p == 5) = false := beq_eq_false_iff_ne.2 h5
    have r7 : (p == 7) = false := beq_eq_false_iff_ne.2 h7
    simp [hides, Instr.findNow, Instr.sameNow, r0, r1, r2, r3, r5, r7]
  · simp [hideV, hideI, h0, h1, h2, h3, h5, h7]

/-- The look-up, a single step of a region. -/
theorem wp_ask {o : Oper} {a : Act} {w : World} {K : Act → World → Prop} {Q : Exit → Act → World → Prop} (x y : Operand) (ho : o.op = .lookup 61 x y true) (b g : Nat) (p : Int) (hx : a.eval x = .map (some b)) (hy : a.eval y = .int .i64 p) (h : HidesAt w b g 6)
    (hk : K (a.put o.dst (.tuple #[hideV g p, .bool (hideI p)])) w) : o.wp Tryz.prog a w K Q := by
  unfold Oper.wp execOp
  simp only [ho, hx, hy, Sem.run_bind, Sem.run_pure, Result.andThen_ok, h.ask p]
  exact hk

theorem loadI {u : World} {p : Addr} {v : Value} (h : u.cell? p = some v) : (loadVar 3 p).run Tryz.prog u = .ok v u := by
  simp [loadVar, Tryz.isAgg3, h, go_sem]

set_option maxHeartbeats 8000000 in
theorem hidings_any (q : R) (pv hv : Value) (w : World) :
    Calls Tryz.prog 46 #[.agg (cR q pv hv)] w fun e w' => ∃ b g, e = .returned (.map (some b)) ∧ RAt w' g q pv hv ∧ HidesAt w' b g 6 ∧ Below w.heap.size w w' := by
  have hs1 : (w.alloc (.cells (cR q pv hv) 32)).heap.size = w.heap.size + 1 := Array.size_push _
  have hb1 := (Below.refl w.heap.size w).alloc (Nat.le_refl _) (.cells (cR q pv hv) 32)
  have hr1 := RAt.new w q pv hv
  obtain ⟨W1, hW1⟩ : ∃ x, w.alloc (.cells (cR q pv hv) 32) = x := ⟨_, rfl⟩
  rw [hW1] at hs1 hb1 hr1
  have h0 := HidesAt.made W1 w.heap.size
  have hb2 := hb1.alloc (by omega) (.map #[] 0)
  have hr2 := hr1.past (.map #[] 0)
  have hl : w.heap.size ≤ W1.heap.size := by omega
  have hne : w.heap.size ≠ W1.heap.size := by omega
  have hmm := @run_makeMap Tryz.prog
  obtain ⟨V0, hV0⟩ : ∃ x, W1.alloc (.map #[] 0) = x := ⟨_, rfl⟩
  rw [hV0] at h0 hb2 hr2
  obtain ⟨B, hB⟩ : ∃ x, W1.heap.size = x := ⟨_, rfl⟩
  rw [hB] at h0 hl hne
  obtain ⟨V1, e1, h1, k1⟩ := h0.put 0 (.func (.func 72) #[] #[.pointer (some ⟨w.heap.size, 0, none⟩)]) rfl rfl
  obtain ⟨V2, e2, h2, k2⟩ := h1.put 1 (.func (.func 71) #[] #[]) rfl rfl
  obtain ⟨V3, e3, h3, k3⟩ := h2.put 2 (.func (.func 72) #[] #[.pointer (some ⟨w.heap.size, 0, none⟩)]) rfl rfl
  obtain ⟨V4, e4, h4, k4⟩ := h3.put 3 (.func (.func 73) #[] #[.pointer (some ⟨w.heap.size, 0, none⟩)]) rfl rfl
  obtain ⟨V5, e5, h5, k5⟩ := h4.put 5 (.func (.func 72) #[] #[.pointer (some ⟨w.heap.size, 0, none⟩)]) rfl rfl
  obtain ⟨V6, e6, h6, k6⟩ := h5.put 7 (.func (.func 72) #[] #[.pointer (some ⟨w.heap.size, 0, none⟩)]) rfl rfl
  have hr8 : RAt V6 w.heap.size q pv hv := by
    have lt : ∀ {x : World}, RAt x w.heap.size q pv hv → w.heap.size < x.heap.size := fun a => a.lt
    have step : ∀ {x y : World}, x.grownBy y (some B) → RAt x w.heap.size q pv hv → RAt y w.heap.size q pv hv := fun k a => (k.block _ a.lt (by simp; omega)).trans a
    exact step k6 (step k5 (step k4 (step k3 (step k2 (step k1 hr2)))))
  have hb8 : Below w.heap.size w V6 := by
    have step : ∀ {x y : World}, x.grownBy y (some B) → Below w.heap.size w x → Below w.heap.size w y := fun k a => a.grown k a.size (fun j e => by cases e; exact hl)
    exact step k6 (step k5 (step k4 (step k3 (step k2 (step k1 hb2)))))
  have HR := Lib.hid hr8
  have HB := Lib.hid hb8
  have HH := Lib.hid h6
  clear hs1 hb1 hr1 h0 hb2 hr2 hl hne h1 h2 h3 h4 h5 h6 k1 k2 k3 k4 k5 k6 hr8 hb8
  go_enter Tryz.func46, Tryz.ntmps46
  go_wp2
  go_ret
  exact ⟨_, _, rfl, HR.out, HH.out, HB.out⟩

end Go.Proofs.YtlkikfdbjpjpaaaGreatDoor.Taint
