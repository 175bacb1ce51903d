/-
  A host as an argument; what the laws' calls read of the listed tables.
-/
import Derived.WideKeyArr
import Derived.ChangeSame
import Derived.Lib.SmallJoins
import Derived.Test.YtlkikfdbjpjpaaaGreatDoorHost
import Derived.Test.YtlkikfdbjpjpaaaGreatDoorLaid
namespace Go.Proofs.YtlkikfdbjpjpaaaGreatDoor.Six
set_option linter.unusedSimpArgs false
set_option linter.unusedVariables false
set_option maxRecDepth 100000


open Go.ChangeShapes Go.WideShapes Go.ChangeAt Go.RowKit

theorem under22 : Tryz.prog.underlying 22 = some (.array 8 3) := by kernel_rfl

theorem cells22 : Tryz.prog.cellsOf 22 = 8 := by kernel_rfl

theorem cells3 : Tryz.prog.cellsOf 3 = 1 := by kernel_rfl
section
variable {H : Type} {enc : TypeId × Value → H} {W : World} {base : Nat} {sp : Nat → Bool} {held : Bool}

theorem trod_row8 {fuel : Nat} {c0 c1 c2 c3 c4 c5 c6 c7 : Value} {x : DataW H × List MemPlace} (hf : DataW.trod enc Tryz.prog W base sp held fuel 22 [c0, c1, c2, c3, c4, c5, c6, c7] = some x) :
    ∃ p : List Int, p.length = 8 ∧ [c0, c1, c2, c3, c4, c5, c6, c7] = p.map (Value.int .i64) ∧ x = (.agg (p.map fun z => .lit (.int .i64 z)), []) ∧ ∀ z ∈ p, (Lit.int .i64 z).wf = true := by
  cases fuel with
  | zero => simp [DataW.trod] at hf
  | succ n =>
    rw [DataW.trod_step] at hf
    unfold DataW.trodStep at hf
    simp only [under22] at hf
    rw [if_pos (by rw [cells22]; rfl)] at hf
    simp only [Option.map_eq_some_iff] at hf
    obtain ⟨xs, hx, e1⟩ := hf
    rw [show List.range 8 = [0, 1, 2, 3, 4, 5, 6, 7] from rfl, List.mapM_cons, List.mapM_cons, List.mapM_cons, List.mapM_cons, List.mapM_cons, List.mapM_cons, List.mapM_cons, List.mapM_cons, List.mapM_nil] at hx
    simp only [bind, Option.bind_eq_some_iff, pure, Option.some.injEq, cells3] at hx
    obtain ⟨y0, h0, _, ⟨y1, h1, _, ⟨y2, h2, _, ⟨y3, h3, _, ⟨y4, h4, _, ⟨y5, h5, _, ⟨y6, h6, _, ⟨y7, h7, _, rfl, rfl⟩, rfl⟩, rfl⟩, rfl⟩, rfl⟩, rfl⟩, rfl⟩, rfl⟩ := hx
    obtain ⟨a0, e0, rfl, w0⟩ := DataW.trod_int Tryz.underlying3 h0
    obtain ⟨a1, e1', rfl, w1⟩ := DataW.trod_int Tryz.underlying3 h1
    obtain ⟨a2, e2, rfl, w2⟩ := DataW.trod_int Tryz.underlying3 h2
    obtain ⟨a3, e3, rfl, w3⟩ := DataW.trod_int Tryz.underlying3 h3
    obtain ⟨a4, e4, rfl, w4⟩ := DataW.trod_int Tryz.underlying3 h4
    obtain ⟨a5, e5, rfl, w5⟩ := DataW.trod_int Tryz.underlying3 h5
    obtain ⟨a6, e6, rfl, w6⟩ := DataW.trod_int Tryz.underlying3 h6
    obtain ⟨a7, e7, rfl, w7⟩ := DataW.trod_int Tryz.underlying3 h7
    simp at e0 e1' e2 e3 e4 e5 e6 e7
    subst e0; subst e1'; subst e2; subst e3; subst e4; subst e5; subst e6; subst e7
    refine ⟨[a0, a1, a2, a3, a4, a5, a6, a7], rfl, rfl, by rw [← e1]; rfl, ?_⟩
    intro z hz
    simp only [List.mem_cons, List.not_mem_nil, or_false] at hz
    rcases hz with rfl | rfl | rfl | rfl | rfl | rfl | rfl | rfl <;> assumption

theorem trod_row8_mk {p : List Int} (h8 : p.length = 8) (hw : ∀ z ∈ p, (Lit.int .i64 z).wf = true) : DataW.trod enc Tryz.prog W base sp held 2 22 (p.map (Value.int .i64)) = some (.agg (p.map fun z => .lit (.int .i64 z)), []) := by
  match p, h8 with
  | [a0, a1, a2, a3, a4, a5, a6, a7], _ =>
    have w0 := hw a0 (by simp)
    have w1 := hw a1 (by simp)
    have w2 := hw a2 (by simp)
    have w3 := hw a3 (by simp)
    have w4 := hw a4 (by simp)
    have w5 := hw a5 (by simp)
    have w6 := hw a6 (by simp)
    have w7 := hw a7 (by simp)
    show DataW.trod enc Tryz.prog W base sp held (1 + 1) 22 [.int .i64 a0, .int .i64 a1, .int .i64 a2, .int .i64 a3, .int .i64 a4, .int .i64 a5, .int .i64 a6, .int .i64 a7] = _
    rw [DataW.trod_step]
    unfold DataW.trodStep
    simp only [under22]
    rw [if_pos (by rw [cells22]; rfl), show List.range 8 = [0, 1, 2, 3, 4, 5, 6, 7] from rfl, List.mapM_cons, List.mapM_cons, List.mapM_cons, List.mapM_cons, List.mapM_cons, List.mapM_cons, List.mapM_cons, List.mapM_cons, List.mapM_nil]
    simp [cells3, DataW.trod, Tryz.underlying3, w0, w1, w2, w3, w4, w5, w6, w7]

/-- What a host's parts are as data. -/
def wfH (h : Host.H) : Prop := (Lit.int .i64 h.k).wf = true ∧ h.s.size ≤ maxLen ∧ (Lit.int .i64 h.n).wf = true ∧ ∀ z ∈ h.p, (Lit.int .i64 z).wf = true

def dataH (h : Host.H) : DataW H := .agg [.lit (.int .i64 h.k), .lit (.string h.s.data.toList), .lit (.int .i64 h.n), .agg (h.p.map fun z => .lit (.int .i64 z))]

theorem cells24 : Tryz.prog.cellsOf 24 = 11 := by kernel_rfl

theorem cells9 : Tryz.prog.cellsOf 9 = 1 := by kernel_rfl

set_option maxRecDepth 100000 in
theorem open_host {r : Reach} {b0 : Nat} {v : Value} {d : DataW H} {ps : List MemPlace} (hval : Value.okWide Tryz.prog W r b0 24 v) (hd : DataW.Trod enc Tryz.prog W base sp held 24 v d ps) :
    ∃ h : Host.H, h.p.length = 8 ∧ v = .agg h.cells ∧ d = dataH h ∧ ps = [] ∧ wfH h := by
  obtain ⟨cs, rfl, hsz⟩ := okWide_struct Tryz.underlying24 hval
  rw [cells24] at hsz
  obtain ⟨l⟩ := cs
  match l, hsz with
  | [e0, e1, e2, c0, c1, c2, c3, c4, c5, c6, c7], _ =>
  obtain ⟨fuel, hf⟩ := hd
  obtain ⟨y0, y1, y2, y3, n, hx, _, h0, h1, h2, h3⟩ := Joins.trod_struct4 Tryz.underlying24 hf
  simp only [Value.cells, cells3, cells9, cells22, List.drop, List.take] at h0 h1 h2 h3
  obtain ⟨k, q0, rfl, w0⟩ := DataW.trod_int Tryz.underlying3 h0
  obtain ⟨s, q1, rfl, w1⟩ := DataW.trod_string Tryz.underlying9 h1
  obtain ⟨m, q2, rfl, w2⟩ := DataW.trod_int Tryz.underlying3 h2
  obtain ⟨p, p8, q3, rfl, w3⟩ := trod_row8 h3
  simp only [Prod.mk.injEq] at hx
  refine ⟨⟨k, s, m, p⟩, p8, ?_, hx.1, hx.2, w0, w1, w2, w3⟩
  show Value.agg ⟨[e0, e1, e2, c0, c1, c2, c3, c4, c5, c6, c7]⟩ = .agg (Host.cH k s m p)
  unfold Host.cH
  rw [← q3]
  simp only [List.cons.injEq, and_true] at q0 q1 q2
  rw [q0, q1, q2]

set_option maxRecDepth 100000 in
theorem shut_host {h : Host.H} (h8 : h.p.length = 8) (hw : wfH h) : DataW.Trod enc Tryz.prog W base sp held 24 (.agg h.cells) (dataH h) [] := by
  obtain ⟨k, s, n, p⟩ := h
  obtain ⟨w0, w1, w2, w3⟩ := hw
  have t3 := trod_row8_mk (enc := enc) (W := W) (base := base) (sp := sp) (held := held) h8 w3
  have t0 : DataW.trod enc Tryz.prog W base sp held 2 3 [.int .i64 k] = some (.lit (.int .i64 k), []) := by simp [DataW.trod, Tryz.underlying3, w0]
  have t1 : DataW.trod enc Tryz.prog W base sp held 2 9 [.string s] = some (.lit (.string s.data.toList), []) := by simp [DataW.trod, Tryz.underlying9, w1]
  have t2 : DataW.trod enc Tryz.prog W base sp held 2 3 [.int .i64 n] = some (.lit (.int .i64 n), []) := by simp [DataW.trod, Tryz.underlying3, w2]
  refine ⟨3, ?_⟩
  have key := Joins.trod_struct4_mk (enc := enc) (w := W) (base := base) (spare := sp) (held := held) (n := 2) (cs := (.int .i64 k :: .string s :: .int .i64 n :: p.map (Value.int .i64))) Tryz.underlying24 (by rw [cells24]; simp; exact h8)
    (y0 := (.lit (.int .i64 k), [])) (y1 := (.lit (.string s.data.toList), [])) (y2 := (.lit (.int .i64 n), [])) (y3 := (.agg (p.map fun z => .lit (.int .i64 z)), []))
    (by simpa [cells3] using t0) (by simpa [cells9] using t1) (by simpa [cells3] using t2) (by
      have e : (List.drop 3 (.int .i64 k :: .string s :: .int .i64 n :: p.map (Value.int .i64))).take (Tryz.prog.cellsOf 22) = p.map (Value.int .i64) := by
        rw [cells22]
        show (p.map (Value.int .i64)).take 8 = _
        rw [List.take_of_length_le (by rw [List.length_map]; exact Nat.le_of_eq h8)]
      rw [e]; exact t3)
  exact key
end

/-- The table's numbers. -/
def zs64 : List Int := (match (Rows.laid_math_bits_deBruijn64tab : DataW Unit) with | .agg ps => ps | _ => []).map fun (d : DataW Unit) => match d with | .lit (.int _ z) => z | _ => 0

def name64 : String := (Rows.taintTellsRow.laid.getD 1 ("", .nil)).1

/-- The second table on the list. -/
theorem tab_of {W : World} (h : laidMet Tryz.prog Rows.taintTellsRow.laid W) : W.cell? ⟨5, 15, none⟩ = some (.int .u8 4) := by
  obtain ⟨ps, ⟨g', t', cs, fuel, p, q, _, _, _, _, ⟨g, t, cs2, fuel2, p2, q2, hg, ht, hvar, hd, _, _⟩, _⟩, _⟩ := h
  have hg' : Tryz.prog.globalNamed name64 = some 5 := by kernel_rfl
  have hgn : Tryz.prog.globalNamed name64 = some g := hg
  have e64 : (Rows.laid_math_bits_deBruijn64tab : DataW Unit) = Lib.tabData .u8 zs64 := by kernel_rfl
  rw [e64] at hd
  obtain rfl := Option.some.inj (hg'.symm.trans hgn)
  have ht' : (Tryz.prog.globals[5]?).map (·.type) = some 204 := by kernel_rfl
  obtain rfl := Option.some.inj (ht'.symm.trans ht)
  have hc := Lib.cells_of_tab (zs := zs64) (k := .u8) (n := 64) (e := 5) (by kernel_rfl) Tryz.underlying5 (by kernel_rfl) (by kernel_rfl) hd
  have := World.var?_cell hg hvar 15
  rw [this, ← Array.getElem?_toList, hc]
  rfl

end Go.Proofs.YtlkikfdbjpjpaaaGreatDoor.Six
