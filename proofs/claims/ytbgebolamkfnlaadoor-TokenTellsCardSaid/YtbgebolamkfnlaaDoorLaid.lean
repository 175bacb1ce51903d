/-
  A world in which the listed tables (of unicode/utf8, and package token's names) lie as their texts lay them (the witness of each card); in each world that the form speaks of internal/bytealg.MaxLen holds an int, and the table of names its names.
-/
import Derived.Test.YtbgebolamkfnlaaDoorRows
import Derived.WalkKit
import Derived.ProofKit
import Derived.OpenShut
import Derived.ShutString
import Derived.Deep.DeepHandedRow
import Derived.Lib.LaidTab
import Derived.Shelf.Vars
import Derived.HandedShaped
namespace Go.Proofs.YtbgebolamkfnlaaDoor.Card
open Go.ChangeShapes Go.WideShapes Go.ChangeAt Go.RowKit

/-- The table of names. -/
def ns : List (List UInt8) := (match (Rows.laid_postmark_token_names : DataW Unit) with | .agg ps => ps | _ => []).map fun (d : DataW Unit) => match d with | .lit (.string bs) => bs | _ => []
noncomputable def laidWorld (os : Os) : World :=
  let w0 := World.holding Tryd.prog os ⟨#[], #[], []⟩
  let put (h : Array Obj) (g : Nat) (cs : Array Value) : Array Obj := h.modify g fun
    | .cells _ t frozen => .cells cs t frozen
    | o => o
  let h1 := put w0.heap 2 (Go.Pinned.utf8FirstZ.map fun z : Nat => Value.int .u8 (z : Int)).toArray
  let h2 := put h1 3 (([128, 191, 160, 191, 128, 159, 144, 191, 128, 143] : List Int).map (fun z => Value.int .u8 z) ++ List.replicate 22 (Value.int .u8 0)).toArray
  let h3 := put h2 0 (ns.map fun s => Value.string ⟨s.toArray⟩).toArray
  { w0 with heap := h3 }
theorem laid_met (os : Os) (args : Array Value) : laidMet Tryd.prog Rows.tokenTellsRow.laid ((laidWorld os).forCall (fun _ _ => 0) ⟨#[], args, []⟩).memory :=
  laidMet_of_run' 8 (by kernel_rfl) (by kernel_rfl)

theorem maxLen_int {W : World} (h : W.ShapedOpen Tryd.prog) : ∃ m, W.cell? ⟨1, 0, none⟩ = some (.int .i64 m) := by
  obtain ⟨m, h⟩ := cell_of_shapedOpen_int (P := Tryd.prog) (g := 1) (t := 3) (zero := #[.int .i64 0]) h (of_decide_eq_true (by kernel_rfl)) (by kernel_rfl) rfl (by kernel_rfl) (by kernel_rfl) Tryd.underlying3
  exact ⟨m, h⟩
theorem cells_of_strs {H : Type} {enc : TypeId × Value → H} {P : Program} {w : World} {base : Nat} {sp : Nat → Bool} {held : Bool} {fuel : Nat} {t e : TypeId} {n : Nat} {cs : List Value} {zs : List (List UInt8)} {p : List MemPlace}
    (ht : P.underlying t = some (.array n e)) (he : P.underlying e = some .string) (hce : P.cellsOf e = 1) (hct : P.cellsOf t = n)
    (h : DataW.trod enc P w base sp held fuel t cs = some (.agg (zs.map fun z => .lit (.string z)), p)) : cs = zs.map fun z => Value.string ⟨z.toArray⟩ := by
  cases fuel with
  | zero => simp [DataW.trod] at h
  | succ fuel =>
    simp only [DataW.trod, ht, hce, hct, Nat.mul_one] at h
    split at h
    · rename_i hl
      obtain ⟨xs, hm, hx⟩ := Option.map_eq_some_iff.1 h
      have hxs : xs.map (·.1) = zs.map fun z => (DataW.lit (.string z) : DataW H) := by
        have := congrArg Prod.fst hx
        simpa using this
      have hxl : xs.length = n := by simpa using Lib.mapM_length hm
      have hzl : zs.length = n := by
        have := congrArg List.length hxs
        simp at this
        omega
      apply List.ext_getElem?
      intro i
      by_cases hi : i < n
      · obtain ⟨b, hb, hf⟩ := Lib.mapM_at hm i i (by simp [hi])
        obtain ⟨z, hc, rfl, _⟩ := DataW.trod_string he hf
        have h1 : cs[i]? = some (.string z) := by
          have := congrArg (·[0]?) hc
          simpa [List.getElem?_take, List.getElem?_drop] using this
        have h2 : (xs.map (·.1))[i]? = some (DataW.lit (.string z.data.toList) : DataW H) := by simp [hb]
        rw [hxs] at h2
        simp only [List.getElem?_map, Option.map_eq_some_iff, DataW.lit.injEq, Lit.string.injEq] at h2
        obtain ⟨z', hz', e'⟩ := h2
        have e2 : (⟨z'.toArray⟩ : ByteArray) = z := by rw [e']
        simp [h1, hz', e2]
      · rw [List.getElem?_eq_none (by omega), List.getElem?_eq_none (by simp; omega)]
    · cases h
def nameN : String := (Rows.tokenTellsRow.laid.getD 1 ("", .nil)).1
/-- The second table on the list: the names. -/
theorem names_of {W : World} (h : laidMet Tryd.prog Rows.tokenTellsRow.laid W) (k : Nat) (s : List UInt8) (hk : ns[k]? = some s) : W.cell? ⟨0, k, none⟩ = some (.string ⟨s.toArray⟩) := by
  obtain ⟨ps, ⟨g', t', cs, fuel, p, q, _, _, _, _, ⟨g, t, cs2, fuel2, p2, q2, hg, ht, hvar, hd, _, _⟩, _⟩, _⟩ := h
  have hg' : Tryd.prog.globalNamed nameN = some 0 := by kernel_rfl
  have hgn : Tryd.prog.globalNamed nameN = some g := hg
  have e64 : (Rows.laid_postmark_token_names : DataW Unit) = .agg (ns.map fun z => .lit (.string z)) := by kernel_rfl
  rw [e64] at hd
  obtain rfl := Option.some.inj (hg'.symm.trans hgn)
  have ht' : (Tryd.prog.globals[0]?).map (·.type) = some 44 := by kernel_rfl
  obtain rfl := Option.some.inj (ht'.symm.trans ht)
  have hc := cells_of_strs (zs := ns) (n := 9) (e := 9) Tryd.underlying44 Tryd.underlying9 (by kernel_rfl) (by kernel_rfl) hd
  have := World.var?_cell hg hvar k
  rw [this, ← Array.getElem?_toList, hc, List.getElem?_map, hk]
  rfl
end Go.Proofs.YtbgebolamkfnlaaDoor.Card
