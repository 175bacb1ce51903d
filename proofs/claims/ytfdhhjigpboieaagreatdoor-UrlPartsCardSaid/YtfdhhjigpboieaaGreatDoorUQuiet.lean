/-
  What a region that draws its order loads of addresses: the same in every world that has only grown.
-/
import Derived.Test.YtfdhhjigpboieaaGreatDoorUOpen
namespace Go.Proofs.YtfdhhjigpboieaaGreatDoor.Url
open Go.RowKit Go.Shelf
set_option linter.unusedSimpArgs false
set_option linter.unusedVariables false
set_option maxRecDepth 100000
theorem load9 {u : World} {p : Addr} {s : ByteArray} (h : u.cell? p = some (.string s)) : (loadVar 9 p).run Tryz.prog u = .ok (.string s) u := by
  simp [loadVar, Tryz.isAgg9, h, go_sem]
theorem load3 {u : World} {p : Addr} {z : Int} (h : u.cell? p = some (.int .i64 z)) : (loadVar 3 p).run Tryz.prog u = .ok (.int .i64 z) u := by
  simp [loadVar, Tryz.isAgg3, h, go_sem]
theorem load4 {u : World} {p : Addr} {b : Bool} (h : u.cell? p = some (.bool b)) : (loadVar 4 p).run Tryz.prog u = .ok (.bool b) u := by
  simp [loadVar, Tryz.isAgg4, h, go_sem]
theorem load25 {u : World} {p : Addr} {v : Value} (h : u.cell? p = some v) : (loadVar 25 p).run Tryz.prog u = .ok v u := by
  simp [loadVar, Tryz.isAgg25, h, go_sem]
section
variable {W : World} {g : Nat} {u : U} {pv : Value}
/-- What is loaded of an address, in every later world. -/
abbrev Q9 (W : World) (g j : Nat) (s : ByteArray) : Prop := ∀ v, Below W.heap.size W v → (loadVar 9 ⟨g, j, none⟩).run Tryz.prog v = .ok (.string s) v
abbrev Q3 (W : World) (g j : Nat) (z : Int) : Prop := ∀ v, Below W.heap.size W v → (loadVar 3 ⟨g, j, none⟩).run Tryz.prog v = .ok (.int .i64 z) v
abbrev Q4 (W : World) (g j : Nat) (b : Bool) : Prop := ∀ v, Below W.heap.size W v → (loadVar 4 ⟨g, j, none⟩).run Tryz.prog v = .ok (.bool b) v
abbrev Q25 (W : World) (g j : Nat) (p : Value) : Prop := ∀ v, Below W.heap.size W v → (loadVar 25 ⟨g, j, none⟩).run Tryz.prog v = .ok p v
abbrev Q24 (W : World) (g j : Nat) (h : Host.H) : Prop := ∀ v, Below W.heap.size W v → (loadVar 24 ⟨g, j, none⟩).run Tryz.prog v = .ok (.agg h.cells) v
abbrev Q27 (W : World) (g : Nat) (u : U) (pv : Value) : Prop := ∀ v, Below W.heap.size W v → (loadVar 27 ⟨g, 0, none⟩).run Tryz.prog v = .ok (.agg (cU u pv)) v
theorem q_sch (a : UrlAt W g u pv) (h8 : u.h.p.length = 8) : Q9 W g 0 (tb u.sch) := fun v hv => load9 (((a.later hv).cell 0).trans (cU_at u pv h8).1)
theorem q_usr (a : UrlAt W g u pv) (h8 : u.h.p.length = 8) : Q9 W g 1 (tb u.usr) := fun v hv => load9 (((a.later hv).cell 1).trans (cU_at u pv h8).2.1)
theorem q_pas (a : UrlAt W g u pv) (h8 : u.h.p.length = 8) : Q9 W g 2 (tb u.pas) := fun v hv => load9 (((a.later hv).cell 2).trans (cU_at u pv h8).2.2.1)
theorem q_prt (a : UrlAt W g u pv) (h8 : u.h.p.length = 8) : Q3 W g 14 u.port := fun v hv => load3 (((a.later hv).cell 14).trans (cU_at u pv h8).2.2.2.2.1)
theorem q_pth (a : UrlAt W g u pv) (h8 : u.h.p.length = 8) : Q25 W g 15 pv := fun v hv => load25 (((a.later hv).cell 15).trans (cU_at u pv h8).2.2.2.2.2.1)
theorem q_qry (a : UrlAt W g u pv) (h8 : u.h.p.length = 8) : Q9 W g 17 (tb u.qry) := fun v hv => load9 (((a.later hv).cell 17).trans (cU_at u pv h8).2.2.2.2.2.2.2.1)
theorem q_hq (a : UrlAt W g u pv) (h8 : u.h.p.length = 8) : Q4 W g 19 u.hq := fun v hv => load4 (((a.later hv).cell 19).trans (cU_at u pv h8).2.2.2.2.2.2.2.2.2.1)
theorem q_hf (a : UrlAt W g u pv) (h8 : u.h.p.length = 8) : Q4 W g 20 u.hf := fun v hv => load4 (((a.later hv).cell 20).trans (cU_at u pv h8).2.2.2.2.2.2.2.2.2.2)
theorem q_host (a : UrlAt W g u pv) (h8 : u.h.p.length = 8) : Q24 W g 3 u.h := fun v hv => (a.later hv).host h8
theorem q_url (a : UrlAt W g u pv) (h8 : u.h.p.length = 8) : Q27 W g u pv := fun v hv => (a.later hv).load h8
end
theorem size_app (s t : ByteArray) : (s ++ t).size = s.size + t.size := by
  show (s ++ t).data.toList.length = _
  rw [Path.text_append, List.length_append]; rfl
theorem nth (x : ByteArray) (k : Nat) (h : k < x.size) : x.data.toList[k]'h = x[k] := rfl
theorem snoc_all (p : UInt8 → Prop) (a : ByteArray) (k : Nat) (h : k < a.size) (hp : ∀ c ∈ a.data.toList.take k, p c) (hd : p a[k]) : ∀ c ∈ a.data.toList.take (k + 1), p c := by
  rw [Ascii.take_snoc a k h]
  intro c hc
  rcases List.mem_append.1 hc with hc | hc
  · exact hp c hc
  · rw [List.mem_singleton.1 hc]; exact hd
theorem take_all (p : UInt8 → Prop) (a : ByteArray) (hp : ∀ c ∈ a.data.toList.take a.size, p c) : ∀ c ∈ a.data.toList, p c := by
  rwa [List.take_of_length_le (by exact Nat.le_refl _)] at hp
end Go.Proofs.YtfdhhjigpboieaaGreatDoor.Url
