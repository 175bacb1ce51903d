/-
  A world in which the listed tables (unicode/utf8's two, and package policy's levels) lie as their texts lay them; internal/bytealg.MaxLen holds an int in each world that the form speaks of. (math/bits.deBruijn64tab is not listed at this seat.)
-/
import Derived.Test.YtbmnhmbicefemaaGreatDoorRows
import Derived.Test.YtbmnhmbicefemaaGreatDoorPlRow
import Derived.WalkKit
import Derived.ProofKit
import Derived.OpenShut
import Derived.ShutString
import Derived.Deep.DeepHandedRow
import Derived.Lib.LaidTab
import Derived.Shelf.Lay
import Derived.Shelf.Vars
import Derived.HandedShaped
namespace Go.Proofs.YtbmnhmbicefemaaGreatDoor.Card
open Go.ChangeShapes Go.WideShapes Go.ChangeAt Go.RowKit

/-- The cells of a table that its text lays as plain integers. -/
def flat {H : Type} (k : IntKind) : DataW H → Array Value
  | .agg ps => (ps.map fun | .lit (.int _ z) => Value.int k z | _ => Value.int k 0).toArray
  | _ => #[]
/-- The table: nine rows of four. -/
def rows : List (List Int) := (List.range 9).map Policy.rowL
noncomputable def laidWorld (os : Os) : World :=
  let w0 := World.holding Tryz.prog os ⟨#[], #[], []⟩
  let put (h : Array Obj) (g : Nat) (cs : Array Value) : Array Obj := h.modify g fun
    | .cells _ t frozen => .cells cs t frozen
    | o => o
  let h1 := put w0.heap 2 (Go.Pinned.utf8FirstZ.map fun z : Nat => Value.int .u8 (z : Int)).toArray
  let h2 := put h1 3 (([128, 191, 160, 191, 128, 159, 144, 191, 128, 143] : List Int).map (fun z => Value.int .u8 z) ++ List.replicate 22 (Value.int .u8 0)).toArray
  let h3 := put h2 0 (rows.flatten.map fun z => Value.int .i64 z).toArray
  { w0 with heap := h3 }
theorem laid_met (os : Os) (args : Array Value) : laidMet Tryz.prog Rows.referDownRow.laid ((laidWorld os).forCall (fun _ _ => 0) ⟨#[], args, []⟩).memory :=
  laidMet_of_run' 8 (by kernel_rfl) (by kernel_rfl)

theorem maxLen_int {W : World} (h : W.ShapedOpen Tryz.prog) : ∃ m, W.cell? ⟨1, 0, none⟩ = some (.int .i64 m) := by
  obtain ⟨m, h⟩ := cell_of_shapedOpen_int (P := Tryz.prog) (g := 1) (t := 3) (zero := #[.int .i64 0]) h (of_decide_eq_true (by kernel_rfl)) (by kernel_rfl) rfl (by kernel_rfl) (by kernel_rfl) Tryz.underlying3
  exact ⟨m, h⟩
/-- AN ARRAY OF ROWS OF INTEGERS THAT READS AS THE TABLE HOLDS THE TABLE's NUMBERS, CELL FOR CELL. -/
theorem cells_of_rows {H : Type} {enc : TypeId × Value → H} {P : Program} {w : World} {base : Nat} {sp : Nat → Bool} {held : Bool} {fuel : Nat} {t e i : TypeId} {n m : Nat} {k : IntKind} {cs : List Value} {zs : List (List Int)} {p : List MemPlace}
    (ht : P.underlying t = some (.array n e)) (he : P.underlying e = some (.array m i)) (hi : P.underlying i = some (.int k)) (hci : P.cellsOf i = 1) (hce : P.cellsOf e = m)
    (h : DataW.trod enc P w base sp held fuel t cs = some (.agg (zs.map (Lib.tabData k)), p)) :
    ∀ a b, a < n → b < m → cs[a * m + b]? = ((zs[a]?.getD [])[b]?).map fun z => Value.int k z := by
  cases fuel with
  | zero => simp [DataW.trod] at h
  | succ fuel =>
    simp only [DataW.trod, ht, hce] at h
    split at h
    · rename_i hl
      obtain ⟨xs, hm, hx⟩ := Option.map_eq_some_iff.1 h
      have hxs : xs.map (·.1) = zs.map fun z => (Lib.tabData k z : DataW H) := by
        have := congrArg Prod.fst hx
        simpa using this
      intro a b ha hb
      obtain ⟨y, hy, hf⟩ := Lib.mapM_at hm a a (by simp [ha])
      have h2 : (xs.map (·.1))[a]? = some y.1 := by simp [hy]
      rw [hxs] at h2
      simp only [List.getElem?_map, Option.map_eq_some_iff] at h2
      obtain ⟨z, hz, hzy⟩ := h2
      have hf' : DataW.trod enc P w base sp held fuel e ((cs.drop (a * m)).take m) = some (Lib.tabData k z, y.2) := by rw [hf, hzy]
      have hc := Lib.cells_of_tab he hi hci hce hf'
      have h3 := congrArg (·[b]?) hc
      simp only [List.getElem?_take, hb, if_true, List.getElem?_drop, List.getElem?_map] at h3
      rw [h3, hz]
      rfl
    · cases h
/-- The levels' place on the list. -/
theorem levels_of {W : World} (h : laidMet Tryz.prog Rows.referDownRow.laid W) : Policy.TabAt W := by
  obtain ⟨ps, ⟨g, t, cs, fuel, p, q, hg, ht, hvar, hd, _, _⟩, _⟩ := h
  have hg' : Tryz.prog.globalNamed "postmark/policy.levels" = some 0 := by kernel_rfl
  have hgn : Tryz.prog.globalNamed "postmark/policy.levels" = some g := hg
  have e64 : (Rows.laid_postmark_policy_levels : DataW Unit) = .agg (rows.map (Lib.tabData .i64)) := by kernel_rfl
  have hd' : DataW.trod (fun _ => ()) Tryz.prog W 0 (fun _ => true) false fuel t cs.toList = some (Rows.laid_postmark_policy_levels, p) := hd
  rw [e64] at hd'
  obtain rfl := Option.some.inj (hg'.symm.trans hgn)
  have ht' : (Tryz.prog.globals[0]?).map (·.type) = some 87 := by kernel_rfl
  obtain rfl := Option.some.inj (ht'.symm.trans ht)
  have hc := cells_of_rows (zs := rows) (n := 9) (m := 4) (e := 60) (i := 3) Tryz.underlying87 Tryz.underlying60 Tryz.underlying3 (by kernel_rfl) (by kernel_rfl) hd'
  intro k j hk hj
  have := World.var?_cell hg hvar (k * 4 + j)
  rw [this, ← Array.getElem?_toList, hc k j hk hj]
  have hr : rows[k]? = some (Policy.rowL k) := by simp [rows, hk]
  rw [hr]
  show (((Policy.rowL k)[j]?).map _) = _
  have hl := Policy.rowL_len k
  unfold Policy.lev
  rw [List.getElem?_eq_getElem (by omega), List.getD_eq_getElem?_getD, List.getElem?_eq_getElem (by omega)]
  rfl
end Go.Proofs.YtbmnhmbicefemaaGreatDoor.Card
