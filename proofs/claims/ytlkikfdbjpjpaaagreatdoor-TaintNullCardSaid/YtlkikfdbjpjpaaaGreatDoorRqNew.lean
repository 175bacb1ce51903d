/-
  A request's copy in a new block.
-/
import Derived.Test.YtlkikfdbjpjpaaaGreatDoorRqObj
namespace Go.Proofs.YtlkikfdbjpjpaaaGreatDoor.Req
set_option linter.unusedSimpArgs false
set_option linter.unusedVariables false
set_option maxRecDepth 100000


open Go.RowKit Go.Shelf

open Url Show Origin

open Host (H none0)

open Path (Strs)

set_option maxRecDepth 100000

def zeroR : R := ⟨none1, [], false, zeroO, 0, 0, 0, [], false, false, 0⟩

theorem zero8 : R8 zeroR := ⟨rfl, rfl⟩

theorem zero_cells : (#[.string ⟨#[]⟩, .string ⟨#[]⟩, .string ⟨#[]⟩, .int .i64 0, .string ⟨#[]⟩, .int .i64 0, .int .i64 0, .int .i64 0, .int .i64 0, .int .i64 0, .int .i64 0, .int .i64 0, .int .i64 0, .int .i64 0, .int .i64 0, .slice none 0 0, .string ⟨#[]⟩, .string ⟨#[]⟩, .string ⟨#[]⟩, .bool false, .bool false, .string ⟨#[]⟩, .slice none 0 0, .bool false, .bool false, .string ⟨#[]⟩, .int .i64 0, .string ⟨#[]⟩, .int .i64 0, .int .i64 0, .int .i64 0, .int .i64 0, .int .i64 0, .int .i64 0, .int .i64 0, .int .i64 0, .int .i64 0, .int .i64 0, .int .i64 0, .int .i64 0, .int .i64 0, .string ⟨#[]⟩, .bool false, .bool false, .int .i64 0] : Array Value) = cR zeroR (.slice none 0 0) (.slice none 0 0) := rfl

theorem new_req (u : World) : RAt (u.alloc (.cells #[.string ⟨#[]⟩, .string ⟨#[]⟩, .string ⟨#[]⟩, .int .i64 0, .string ⟨#[]⟩, .int .i64 0, .int .i64 0, .int .i64 0, .int .i64 0, .int .i64 0, .int .i64 0, .int .i64 0, .int .i64 0, .int .i64 0, .int .i64 0, .slice none 0 0, .string ⟨#[]⟩, .string ⟨#[]⟩, .string ⟨#[]⟩, .bool false, .bool false, .string ⟨#[]⟩, .slice none 0 0, .bool false, .bool false, .string ⟨#[]⟩, .int .i64 0, .string ⟨#[]⟩, .int .i64 0, .int .i64 0, .int .i64 0, .int .i64 0, .int .i64 0, .int .i64 0, .int .i64 0, .int .i64 0, .int .i64 0, .int .i64 0, .int .i64 0, .int .i64 0, .int .i64 0, .string ⟨#[]⟩, .bool false, .bool false, .int .i64 0] 32)) u.heap.size zeroR (.slice none 0 0) (.slice none 0 0) := by
  rw [zero_cells]
  exact RAt.new u zeroR (.slice none 0 0) (.slice none 0 0)

theorem below_req (u : World) (k : R) (pv hv : Value) : Below u.heap.size u ((u.alloc (.cells #[.string ⟨#[]⟩, .string ⟨#[]⟩, .string ⟨#[]⟩, .int .i64 0, .string ⟨#[]⟩, .int .i64 0, .int .i64 0, .int .i64 0, .int .i64 0, .int .i64 0, .int .i64 0, .int .i64 0, .int .i64 0, .int .i64 0, .int .i64 0, .slice none 0 0, .string ⟨#[]⟩, .string ⟨#[]⟩, .string ⟨#[]⟩, .bool false, .bool false, .string ⟨#[]⟩, .slice none 0 0, .bool false, .bool false, .string ⟨#[]⟩, .int .i64 0, .string ⟨#[]⟩, .int .i64 0, .int .i64 0, .int .i64 0, .int .i64 0, .int .i64 0, .int .i64 0, .int .i64 0, .int .i64 0, .int .i64 0, .int .i64 0, .int .i64 0, .int .i64 0, .int .i64 0, .string ⟨#[]⟩, .bool false, .bool false, .int .i64 0] 32)).setRow u.heap.size (cR k pv hv)) :=
  below_row ((Below.refl u.heap.size u).alloc (Nat.le_refl _) _) (Nat.le_refl _) (cR k pv hv)
/-! ## a user and a password, stored -/

theorem put_usr {w : World} {g : Nat} {u : U} {pv : Value} (a : UrlAt w g u pv) (h8 : u.h.p.length = 8) (x : T) : UrlAt (w.setCell ⟨g, 1, none⟩ (.string (tb x))) g { u with usr := x } pv := by
  have := heap_set a 1 (.string (tb x))
  unfold UrlAt
  rw [this]
  obtain ⟨sch, usr, pas, ⟨k, s, n, p⟩, port, path, opq, qry, frg, hq, hf⟩ := u
  obtain ⟨a, b, c, d, e, f, g, i, rfl⟩ := eight h8
  rfl

theorem put_pas {w : World} {g : Nat} {u : U} {pv : Value} (a : UrlAt w g u pv) (h8 : u.h.p.length = 8) (x : T) : UrlAt (w.setCell ⟨g, 2, none⟩ (.string (tb x))) g { u with pas := x } pv := by
  have := heap_set a 2 (.string (tb x))
  unfold UrlAt
  rw [this]
  obtain ⟨sch, usr, pas, ⟨k, s, n, p⟩, port, path, opq, qry, frg, hq, hf⟩ := u
  obtain ⟨a, b, c, d, e, f, g, i, rfl⟩ := eight h8
  rfl

/-- A whole request, stored (a single step of a region). -/
theorem put_req {o : Oper} {a : Act} {w : World} {K : Act → World → Prop} {Q : Exit → Act → World → Prop} (x y : Operand) (ho : o.op = .store 32 x y) (g : Nat) (hx : a.eval x = .pointer (some ⟨g, 0, none⟩)) (k : R) (qv kv : Value) (hy : a.eval y = .agg (cR k qv kv)) (k8 : R8 k) (hq : qv.oneCell' = true) (hkv : kv.oneCell' = true) (l : R) (pv hv : Value) (h8 : R8 l) (hr : RAt w g l pv hv)
    (h : K (a.put o.dst undef) (w.setRow g (cR k qv kv))) : o.wp Tryz.prog a w K Q :=
  wp_store_row 32 x y ho g (cR k qv kv) hx hy 32 (cR l pv hv) hr (by rw [cR_size k qv kv k8]; exact size32) (by rw [cR_size k qv kv k8, cR_size l pv hv h8]) (cR_one k qv kv hq hkv) h

end Go.Proofs.YtlkikfdbjpjpaaaGreatDoor.Req
