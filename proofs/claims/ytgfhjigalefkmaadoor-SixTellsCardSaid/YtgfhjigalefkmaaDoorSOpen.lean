/-
  An array of eight ints as an argument; what the laws' calls read of the listed tables.
-/
import Derived.Test.YtgfhjigalefkmaaDoorLaid
import Derived.Test.YtgfhjigalefkmaaDoorSAwake
import Derived.WideKeyArr
import Derived.ChangeSame
namespace Go.Proofs.YtgfhjigalefkmaaDoor.Six
open Go.ChangeShapes Go.WideShapes Go.ChangeAt Go.RowKit
set_option linter.unusedSimpArgs false
set_option linter.unusedVariables false
theorem under22 : Tryd.prog.underlying 22 = some (.array 8 3) := by kernel_rfl
theorem cells22 : Tryd.prog.cellsOf 22 = 8 := by kernel_rfl
theorem cells3 : Tryd.prog.cellsOf 3 = 1 := by kernel_rfl
section
variable {H : Type} {enc : TypeId × Value → H} {W : World} {base : Nat} {sp : Nat → Bool} {held : Bool}
theorem open_row8 {r : Reach} {b0 : Nat} {v : Value} {d : DataW H} {ps : List MemPlace} (hval : Value.okWide Tryd.prog W r b0 22 v) (hd : DataW.Trod enc Tryd.prog W base sp held 22 v d ps) :
    ∃ p : List Int, p.length = 8 ∧ v = .agg (arr p) ∧ d = .agg (p.map fun z => .lit (.int .i64 z)) ∧ ps = [] ∧ ∀ z ∈ p, (Lit.int .i64 z).wf = true := by
  simp only [Value.okWide, under22] at hval
  obtain ⟨cs, rfl, h2, _⟩ := hval
  rw [cells22] at h2
  obtain ⟨l⟩ := cs
  match l, h2 with
  | [c0, c1, c2, c3, c4, c5, c6, c7], _ =>
  obtain ⟨fuel, hf⟩ := hd
  cases fuel with
  | zero => simp [DataW.trod] at hf
  | succ n =>
    rw [DataW.trod_step] at hf
    unfold DataW.trodStep at hf
    simp only [under22, Value.cells] at hf
    rw [if_pos (by rw [cells22]; rfl)] at hf
    simp only [Option.map_eq_some_iff] at hf
    obtain ⟨xs, hx, e1⟩ := hf
    rw [show List.range 8 = [0, 1, 2, 3, 4, 5, 6, 7] from rfl, List.mapM_cons, List.mapM_cons, List.mapM_cons, List.mapM_cons, List.mapM_cons, List.mapM_cons, List.mapM_cons, List.mapM_cons, List.mapM_nil] at hx
    simp only [bind, Option.bind_eq_some_iff, pure, Option.some.injEq, cells3] at hx
    obtain ⟨y0, h0, _, ⟨y1, h1, _, ⟨y2, h2, _, ⟨y3, h3, _, ⟨y4, h4, _, ⟨y5, h5, _, ⟨y6, h6, _, ⟨y7, h7, _, rfl, rfl⟩, rfl⟩, rfl⟩, rfl⟩, rfl⟩, rfl⟩, rfl⟩, rfl⟩ := hx
    obtain ⟨a0, e0, rfl, w0⟩ := DataW.trod_int Tryd.underlying3 h0
    obtain ⟨a1, e1', rfl, w1⟩ := DataW.trod_int Tryd.underlying3 h1
    obtain ⟨a2, e2, rfl, w2⟩ := DataW.trod_int Tryd.underlying3 h2
    obtain ⟨a3, e3, rfl, w3⟩ := DataW.trod_int Tryd.underlying3 h3
    obtain ⟨a4, e4, rfl, w4⟩ := DataW.trod_int Tryd.underlying3 h4
    obtain ⟨a5, e5, rfl, w5⟩ := DataW.trod_int Tryd.underlying3 h5
    obtain ⟨a6, e6, rfl, w6⟩ := DataW.trod_int Tryd.underlying3 h6
    obtain ⟨a7, e7, rfl, w7⟩ := DataW.trod_int Tryd.underlying3 h7
    simp at e0 e1' e2 e3 e4 e5 e6 e7
    subst e0; subst e1'; subst e2; subst e3; subst e4; subst e5; subst e6; subst e7
    simp only [Prod.mk.injEq] at e1
    refine ⟨[a0, a1, a2, a3, a4, a5, a6, a7], rfl, rfl, by rw [← e1.1]; rfl, by rw [← e1.2]; rfl, ?_⟩
    intro z hz
    simp only [List.mem_cons, List.not_mem_nil, or_false] at hz
    rcases hz with rfl | rfl | rfl | rfl | rfl | rfl | rfl | rfl <;> assumption
theorem shut_row8 {p : List Int} (h8 : p.length = 8) (hw : ∀ z ∈ p, (Lit.int .i64 z).wf = true) :
    DataW.Trod enc Tryd.prog W base sp held 22 (.agg (arr p)) (.agg (p.map fun z => .lit (.int .i64 z))) [] := by
  match p, h8 with
  | [a0, a1, a2, a3, a4, a5, a6, a7], _ =>
    have w0 := hw a0 (by simp)
    have w1 := hw a1 (by simp)
    have w2 := hw a2 (by simp)
    have w3 := hw a3 (by simp)
    have w4 := hw a4 (by simp)
    have w5 := hw a5 (by simp)
    have w6 := hw a6 (by simp)
    have w7 := hw a7 (by simp)
    refine ⟨2, ?_⟩
    show DataW.trod enc Tryd.prog W base sp held (1 + 1) 22 [.int .i64 a0, .int .i64 a1, .int .i64 a2, .int .i64 a3, .int .i64 a4, .int .i64 a5, .int .i64 a6, .int .i64 a7] = _
    rw [DataW.trod_step]
    unfold DataW.trodStep
    simp only [under22]
    rw [if_pos (by rw [cells22]; rfl), show List.range 8 = [0, 1, 2, 3, 4, 5, 6, 7] from rfl, List.mapM_cons, List.mapM_cons, List.mapM_cons, List.mapM_cons, List.mapM_cons, List.mapM_cons, List.mapM_cons, List.mapM_cons, List.mapM_nil]
    simp [cells3, DataW.trod, Tryd.underlying3, w0, w1, w2, w3, w4, w5, w6, w7]
end
/-- The table's numbers. -/
def zs64 : List Int := (match (Rows.laid_math_bits_deBruijn64tab : DataW Unit) with | .agg ps => ps | _ => []).map fun (d : DataW Unit) => match d with | .lit (.int _ z) => z | _ => 0
def name64 : String := (Rows.sixTellsRow.laid.getD 1 ("", .nil)).1
/-- The second table on the list. -/
theorem tab_of {W : World} (h : laidMet Tryd.prog Rows.sixTellsRow.laid W) : W.cell? ⟨5, 15, none⟩ = some (.int .u8 4) := by
  obtain ⟨ps, ⟨g', t', cs, fuel, p, q, _, _, _, _, ⟨g, t, cs2, fuel2, p2, q2, hg, ht, hvar, hd, _, _⟩, _⟩, _⟩ := h
  have hg' : Tryd.prog.globalNamed name64 = some 5 := by kernel_rfl
  have hgn : Tryd.prog.globalNamed name64 = some g := hg
  have e64 : (Rows.laid_math_bits_deBruijn64tab : DataW Unit) = Lib.tabData .u8 zs64 := by kernel_rfl
  rw [e64] at hd
  obtain rfl := Option.some.inj (hg'.symm.trans hgn)
  have ht' : (Tryd.prog.globals[5]?).map (·.type) = some 96 := by kernel_rfl
  obtain rfl := Option.some.inj (ht'.symm.trans ht)
  have hc := Lib.cells_of_tab (zs := zs64) (k := .u8) (n := 64) (e := 5) (by kernel_rfl) Tryd.underlying5 (by kernel_rfl) (by kernel_rfl) hd
  have := World.var?_cell hg hvar 15
  rw [this, ← Array.getElem?_toList, hc]
  rfl
end Go.Proofs.YtgfhjigalefkmaaDoor.Six
