/-
  A world in which the listed table (package policy's levels) lies as its text lays it (the witness of each card); in each world that the form speaks of it lies so.
-/
import Derived.Test.YtbnbdijgdokhhaaDoorRows
import Derived.Test.YtbnbdijgdokhhaaDoorPlRow
import Derived.WalkKit
import Derived.ProofKit
import Derived.OpenShut
import Derived.ShutString
import Derived.Deep.DeepHandedRow
import Derived.Lib.LaidTab
import Derived.Shelf.Lay
import Derived.Shelf.Vars
import Derived.HandedShaped
namespace Go.Proofs.YtbnbdijgdokhhaaDoor.Card
open Go.ChangeShapes Go.WideShapes Go.ChangeAt Go.RowKit

/-- The table: nine rows of four. -/
def rows : List (List Int) := (List.range 9).map Policy.rowL
noncomputable def laidWorld (os : Os) : World :=
  let w0 := World.holding Tryd.prog os ⟨#[], #[], []⟩
  let put (h : Array Obj) (g : Nat) (cs : Array Value) : Array Obj := h.modify g fun
    | .cells _ t frozen => .cells cs t frozen
    | o => o
  let h1 := put w0.heap 0 (rows.flatten.map fun z => Value.int .i64 z).toArray
  { w0 with heap := h1 }
theorem laid_met (os : Os) (args : Array Value) : laidMet Tryd.prog Rows.policyTellsRow.laid ((laidWorld os).forCall (fun _ _ => 0) ⟨#[], args, []⟩).memory :=
  laidMet_of_run' 8 (by kernel_rfl) (by kernel_rfl)

/-- AN ARRAY OF ROWS OF INTEGERS THAT READS AS THE TABLE HOLDS THE TABLE's NUMBERS, CELL FOR CELL. -/
theorem cells_of_rows {H : Type} {enc : TypeId × Value → H} {P : Program} {w : World} {base : Nat} {sp : Nat → Bool} {held : Bool} {fuel : Nat} {t e i : TypeId} {n m : Nat} {k : IntKind} {cs : List Value} {zs : List (List Int)} {p : List MemPlace}
    (ht : P.underlying t = some (.array n e)) (he : P.underlying e = some (.array m i)) (hi : P.underlying i = some (.int k)) (hci : P.cellsOf i = 1) (hce : P.cellsOf e = m)
    (h : DataW.trod enc P w base sp held fuel t cs = some (.agg (zs.map (Lib.tabData k)), p)) :
    ∀ a b, a < n → b < m → cs[a * m + b]? = ((zs[a]?.getD [])[b]?).map fun z => Value.int k z := by
  cases fuel with
  | zero => simp [DataW.trod] at h
  | succ fuel =>
    simp only [DataW.trod, ht, hce] at h
    split at h
    · rename_i hl
      obtain ⟨xs, hm, hx⟩ := Option.map_eq_some_iff.1 h
      have hxs : xs.map (·.1) = zs.map fun z => (Lib.tabData k z : DataW H) := by
        have := congrArg Prod.fst hx
        simpa using this
      intro a b ha hb
      obtain ⟨y, hy, hf⟩ := Lib.mapM_at hm a a (by simp [ha])
      have h2 : (xs.map (·.1))[a]? = some y.1 := by simp [hy]
      rw [hxs] at h2
      simp only [List.getElem?_map, Option.map_eq_some_iff] at h2
      obtain ⟨z, hz, hzy⟩ := h2
      have hf' : DataW.trod enc P w base sp held fuel e ((cs.drop (a * m)).take m) = some (Lib.tabData k z, y.2) := by rw [hf, hzy]
      have hc := Lib.cells_of_tab he hi hci hce hf'
      have h3 := congrArg (·[b]?) hc
      simp only [List.getElem?_take, hb, if_true, List.getElem?_drop, List.getElem?_map] at h3
      rw [h3, hz]
      rfl
    · cases h
/-- The first table on the list: the levels. -/
theorem tab_of {W : World} (h : laidMet Tryd.prog Rows.policyTellsRow.laid W) : Policy.TabAt W := by
  obtain ⟨ps, ⟨g, t, cs, fuel, p, q, hg, ht, hvar, hd, _, _⟩, _⟩ := h
  have hg' : Tryd.prog.globalNamed "postmark/policy.levels" = some 0 := by kernel_rfl
  have hgn : Tryd.prog.globalNamed "postmark/policy.levels" = some g := hg
  have e64 : (Rows.laid_postmark_policy_levels : DataW Unit) = .agg (rows.map (Lib.tabData .i64)) := by kernel_rfl
  have hd' : DataW.trod (fun _ => ()) Tryd.prog W 0 (fun _ => true) false fuel t cs.toList = some (Rows.laid_postmark_policy_levels, p) := hd
  rw [e64] at hd'
  obtain rfl := Option.some.inj (hg'.symm.trans hgn)
  have ht' : (Tryd.prog.globals[0]?).map (·.type) = some 35 := by kernel_rfl
  obtain rfl := Option.some.inj (ht'.symm.trans ht)
  have hc := cells_of_rows (zs := rows) (n := 9) (m := 4) (e := 32) (i := 3) Tryd.underlying35 Tryd.underlying32 Tryd.underlying3 (by kernel_rfl) (by kernel_rfl) hd'
  intro k j hk hj
  have := World.var?_cell hg hvar (k * 4 + j)
  rw [this, ← Array.getElem?_toList, hc k j hk hj]
  have hr : rows[k]? = some (Policy.rowL k) := by simp [rows, hk]
  rw [hr]
  show (((Policy.rowL k)[j]?).map _) = _
  have hl := Policy.rowL_len k
  unfold Policy.lev
  rw [List.getElem?_eq_getElem (by omega), List.getD_eq_getElem?_getD, List.getElem?_eq_getElem (by omega)]
  rfl
end Go.Proofs.YtbnbdijgdokhhaaDoor.Card
