/-
  A host as an argument; what the laws' calls read of the listed tables.
-/
import Derived.WideKeyArr
import Derived.ChangeSame
import Derived.Lib.SmallJoins
import Derived.Test.YtkhjhiofgoampaaGreatDoorHost
import Derived.Test.YtkhjhiofgoampaaGreatDoorLaid
namespace Go.Proofs.YtkhjhiofgoampaaGreatDoor.Six
set_option linter.unusedSimpArgs false
set_option linter.unusedVariables false
set_option maxRecDepth 100000


open Go.ChangeShapes Go.WideShapes Go.ChangeAt Go.RowKit

theorem under22 : Tryz.prog.underlying 22 = some (.array 8 3) := by kernel_rfl

theorem cells22 : Tryz.prog.cellsOf 22 = 8 := by kernel_rfl

theorem cells3 : Tryz.prog.cellsOf 3 = 1 := by kernel_rfl
section
variable {H : Type} {enc : TypeId × Value → H} {W : World} {base : Nat} {sp : Nat → Bool} {held : Bool}

theorem trod_row8 {fuel : Nat} {c0 c1 c2 c3 c4 c5 c6 c7 : Value} {x : DataW H × List MemPlace} (hf : DataW.trod enc Tryz.prog W base sp held fuel 22 [c0, c1, c2, c3, c4, c5, c6, c7] = some x) :
    ∃ p : List Int, p.length = 8 ∧ [c0, c1, c2, c3, c4, c5, c6, c7] = p.map (Value.int .i64) ∧ x = (.agg (p.map fun z => .lit (.int .i64 z)), []) ∧ ∀ z ∈ p, (Lit.int .i64 z).wf = true := by
  cases fuel with
  | zero => simp [DataW.trod] at hf
  | succ n =>
    rw [DataW.trod_step] at hf
    unfold DataW.trodStep at hf
    simp only [under22] at hf
    rw [if_pos (by rw [cells22]; rfl)] at hf
    simp only [Option.map_eq_some_iff] at hf
    obtain ⟨xs, hx, e1⟩ := hf
    rw [show List.range 8 = [0, 1, 2, 3, 4, 5, 6, 7] from rfl, List.mapM_cons, List.mapM_cons, List.mapM_cons, List.mapM_cons, List.mapM_cons, List.mapM_cons, List.mapM_cons, List.mapM_cons, List.mapM_nil] at hx
    simp only [bind, Option.bind_eq_some_iff, pure, Option.some.injEq, cells3] at hx
    obtain ⟨y0, h0, _, ⟨y1, h1, _, ⟨y2, h2, _, ⟨y3, h3, _, ⟨y4, h4, _, ⟨y5, h5, _, ⟨y6, h6, _, ⟨y7, h7, _, rfl, rfl⟩, rfl⟩, rfl⟩, rfl⟩, rfl⟩, rfl⟩, rfl⟩, rfl⟩ := hx
    obtain ⟨a0, e0, rfl, w0⟩ := DataW.trod_int Tryz.underlying3 h0
    obtain ⟨a1, e1', rfl, w1⟩ := DataW.trod_int Tryz.underlying3 h1
    obtain ⟨a2, e2, rfl, w2⟩ := DataW.trod_int Tryz.underlying3 h2
    obtain ⟨a3, e3, rfl, w3⟩ := DataW.trod_int Tryz.underlying3 h3
    obtain ⟨a4, e4, rfl, w4⟩ := DataW.trod_int Tryz.underlying3 h4
    obtain ⟨a5, e5, rfl, w5⟩ := DataW.trod_int Tryz.underlying3 h5
    obtain ⟨a6, e6, rfl, w6⟩ := DataW.trod_int Tryz.underlying3 h6
    obtain ⟨a7, e7, rfl, w7⟩ := DataW.trod_int Tryz.underlying3 h7
    simp at e0 e1' e2 e3 e4 e5 e6 e7
    subst e0; subst e1'; subst e2; subst e3; subst e4; subst e5; subst e6; subst e7
    refine ⟨[a0, a1, a2, a3, a4, a5, a6, a7], rfl, rfl, by rw [← e1]; rfl, ?_⟩
    intro z hz
    simp only [List.mem_cons, List.not_mem_nil, or_false] at hz
    rcases hz with rfl | rfl | rfl | rfl | rfl | rfl | rfl | rfl <;> assumption

theorem cells24 : Tryz.prog.cellsOf 24 = 11 := by kernel_rfl

theorem cells9 : Tryz.prog.cellsOf 9 = 1 := by kernel_rfl

end

/-- The table's numbers. -/
def zs64 : List Int := (match (Rows.laid_math_bits_deBruijn64tab : DataW Unit) with | .agg ps => ps | _ => []).map fun (d : DataW Unit) => match d with | .lit (.int _ z) => z | _ => 0

def name64 : String := (Rows.joinTellsRow.laid.getD 1 ("", .nil)).1

/-- The second table on the list. -/
theorem tab_of {W : World} (h : laidMet Tryz.prog Rows.joinTellsRow.laid W) : W.cell? ⟨5, 15, none⟩ = some (.int .u8 4) := by
  obtain ⟨ps, ⟨g', t', cs, fuel, p, q, _, _, _, _, ⟨g, t, cs2, fuel2, p2, q2, hg, ht, hvar, hd, _, _⟩, _⟩, _⟩ := h
  have hg' : Tryz.prog.globalNamed name64 = some 5 := by kernel_rfl
  have hgn : Tryz.prog.globalNamed name64 = some g := hg
  have e64 : (Rows.laid_math_bits_deBruijn64tab : DataW Unit) = Lib.tabData .u8 zs64 := by kernel_rfl
  rw [e64] at hd
  obtain rfl := Option.some.inj (hg'.symm.trans hgn)
  have ht' : (Tryz.prog.globals[5]?).map (·.type) = some 203 := by kernel_rfl
  obtain rfl := Option.some.inj (ht'.symm.trans ht)
  have hc := Lib.cells_of_tab (zs := zs64) (k := .u8) (n := 64) (e := 5) (by kernel_rfl) Tryz.underlying5 (by kernel_rfl) (by kernel_rfl) hd
  have := World.var?_cell hg hvar 15
  rw [this, ← Array.getElem?_toList, hc]
  rfl

end Go.Proofs.YtkhjhiofgoampaaGreatDoor.Six
