/-
  show's Bare and Open.
-/
import Derived.Test.YtkjkcgbmfglihaaGreatDoorSHCopy
namespace Go.Proofs.YtkjkcgbmfglihaaGreatDoor.Show
open Go.RowKit Go.Shelf
open Url
open Host (none0)
open Path (Strs)
set_option linter.unusedSimpArgs false
set_option linter.unusedVariables false
set_option maxRecDepth 100000

theorem at_usr {w : World} {g : Nat} {u : U} {pv : Value} (a : UrlAt w g u pv) (h8 : u.h.p.length = 8) (x : T) : UrlAt (w.setCell ⟨g, 1, none⟩ (.string (tb x))) g { u with usr := x } pv := by
  have := heap_set a 1 (.string (tb x))
  unfold UrlAt
  rw [this]
  obtain ⟨sch, usr, pas, ⟨k, s, n, p⟩, port, path, opq, qry, frg, hq, hf⟩ := u
  obtain ⟨a, b, c, d, e, f, g, i, rfl⟩ := eight h8
  rfl
theorem at_pas {w : World} {g : Nat} {u : U} {pv : Value} (a : UrlAt w g u pv) (h8 : u.h.p.length = 8) (x : T) : UrlAt (w.setCell ⟨g, 2, none⟩ (.string (tb x))) g { u with pas := x } pv := by
  have := heap_set a 2 (.string (tb x))
  unfold UrlAt
  rw [this]
  obtain ⟨sch, usr, pas, ⟨k, s, n, p⟩, port, path, opq, qry, frg, hq, hf⟩ := u
  obtain ⟨a, b, c, d, e, f, g, i, rfl⟩ := eight h8
  rfl
set_option maxHeartbeats 16000000 in
theorem bare_any (u : U) (pv : Value) (hf : Fit u) (w : World) (hs : Strs w pv u.path) : Calls Tryz.prog 25 #[.agg (cU u pv)] w (Got w (bareU u)) := by
  have H8 := Lib.hid hf.h8
  have H8d : (bareU u).h.p.length = 8 := hf.h8
  have H8s : u.h.p.length = 8 := hf.h8
  have h1 := UrlAt.new w u pv
  have hb1 := (Below.refl w.heap.size w).alloc (Nat.le_refl _) (.cells (cU u pv) 27)
  have hs1 : (w.alloc (.cells (cU u pv) 27)).heap.size = w.heap.size + 1 := Array.size_push _
  have h2 := UrlAt.new (w.alloc (.cells (cU u pv) 27)) none1 (.slice none 0 0)
  rw [hs1] at h2
  have HU := Lib.hid (h1.past (.cells (cU none1 (.slice none 0 0)) 27))
  have HB0 := Lib.hid (hb1.alloc (by omega) (.cells (cU none1 (.slice none 0 0)) 27))
  have HZ := Lib.hid h2
  have HN := Lib.hid (show ((w.alloc (.cells (cU u pv) 27)).alloc (.cells (cU none1 (.slice none 0 0)) 27)).heap.size = w.heap.size + 2 by
    rw [show ((w.alloc (.cells (cU u pv) 27)).alloc (.cells (cU none1 (.slice none 0 0)) 27)).heap.size = (w.alloc (.cells (cU u pv) 27)).heap.size + 1 from Array.size_push _, hs1])
  have CC := Lib.hid (copied_any u pv hf ((w.alloc (.cells (cU u pv) 27)).alloc (.cells (cU none1 (.slice none 0 0)) 27)) (hs.later HB0.out))
  have hU : UrlAt ((w.alloc (.cells (cU u pv) 27)).alloc (.cells #[.string ⟨#[]⟩, .string ⟨#[]⟩, .string ⟨#[]⟩, .int .i64 0, .string ⟨#[]⟩, .int .i64 0, .int .i64 0, .int .i64 0, .int .i64 0, .int .i64 0, .int .i64 0, .int .i64 0, .int .i64 0, .int .i64 0, .int .i64 0, .slice none 0 0, .string ⟨#[]⟩, .string ⟨#[]⟩, .string ⟨#[]⟩, .bool false, .bool false] 27)) w.heap.size u pv := HU.out
  clear h1 h2 hb1 hs1 hs hf
  go_enter Tryz.func25, Tryz.ntmps25
  go_wp2_with ((with_reducible refine wp_load27 (o := ⟨some 4, .load 27 (.tmp 1), _, _, _, _⟩) ?_ (.tmp 1) ?_ w.heap.size ?_ u pv H8.out hU ?_); (· rfl); (· rfl); (· rfl); simp only [Act.put, List.setIfInBounds_toArray, List.set_cons_zero, List.set_cons_succ])
  clear hU
  rw [zero_url]
  generalize (w.alloc (.cells (cU u pv) 27)).alloc (.cells (cU none1 (.slice none 0 0)) 27) = W at HU HB0 HZ HN CC ⊢
  refine CC.out.mono ?_
  rintro e u4 ⟨qv, rfl, hst, hn, hB4⟩
  rw [HN.out] at hn
  have HST := Lib.hid hst
  have hone := strs_one hst
  have HQ := Lib.hid hn
  have HZ4 := Lib.hid (HZ.out.later hB4)
  have HB4 := Lib.hid (Ascii.below2 HB0.out hB4)
  clear CC HU HB0 HZ hst hn hB4
  have hnew : UrlAt (u4.alloc (.cells #[.string ⟨#[]⟩, .string ⟨#[]⟩, .string ⟨#[]⟩, .int .i64 0, .string ⟨#[]⟩, .int .i64 0, .int .i64 0, .int .i64 0, .int .i64 0, .int .i64 0, .int .i64 0, .int .i64 0, .int .i64 0, .int .i64 0, .int .i64 0, .slice none 0 0, .string ⟨#[]⟩, .string ⟨#[]⟩, .string ⟨#[]⟩, .bool false, .bool false] 27)) u4.heap.size none1 (.slice none 0 0) := UrlAt.new u4 none1 (.slice none 0 0)
  have HC5 := Lib.hid (below_row ((Below.refl u4.heap.size u4).alloc (Nat.le_refl _) (.cells #[.string ⟨#[]⟩, .string ⟨#[]⟩, .string ⟨#[]⟩, .int .i64 0, .string ⟨#[]⟩, .int .i64 0, .int .i64 0, .int .i64 0, .int .i64 0, .int .i64 0, .int .i64 0, .int .i64 0, .int .i64 0, .int .i64 0, .int .i64 0, .slice none 0 0, .string ⟨#[]⟩, .string ⟨#[]⟩, .string ⟨#[]⟩, .bool false, .bool false] 27)) (Nat.le_refl _) (cU u qv))
  have HU5 := Lib.hid (hnew.row u qv)
  have ca := HU5.out.cell 18
  rw [(cU_at u qv (by exact H8.out)).2.2.2.2.2.2.2.2.1] at ca
  have cb := HU5.out.cell 20
  rw [(cU_at u qv (by exact H8.out)).2.2.2.2.2.2.2.2.2.2] at cb
  have fa := HU5.out.free 18
  have fb := HU5.out.free 20
  have HU9 := Lib.hid (show UrlAt ((((u4.alloc (.cells #[.string ⟨#[]⟩, .string ⟨#[]⟩, .string ⟨#[]⟩, .int .i64 0, .string ⟨#[]⟩, .int .i64 0, .int .i64 0, .int .i64 0, .int .i64 0, .int .i64 0, .int .i64 0, .int .i64 0, .int .i64 0, .int .i64 0, .int .i64 0, .slice none 0 0, .string ⟨#[]⟩, .string ⟨#[]⟩, .string ⟨#[]⟩, .bool false, .bool false] 27)).setRow u4.heap.size (cU u qv)).setCell ⟨u4.heap.size, 18, none⟩ (.string ⟨#[]⟩)).setCell ⟨u4.heap.size, 20, none⟩ (.bool false)) u4.heap.size (bareU u) qv from (HU5.out.frg (by exact H8.out) []).hf (by exact H8.out) false)
  have HC9 := Lib.hid (below_set (below_set HC5.out (Nat.le_refl u4.heap.size) 18 (.string ⟨#[]⟩)) (Nat.le_refl u4.heap.size) 20 (.bool false))
  have HZ9 := Lib.hid (HZ4.out.later HC9.out)
  go_wp2_with (first
    | ((with_reducible refine wp_store27 (o := ⟨none, .store 27 (.tmp 3) (.tmp 5), _, _, _, _⟩) ?_ (.tmp 3) (.tmp 5) ?_ u4.heap.size ?_ u qv ?_ H8s hone none1 (.slice none 0 0) rfl hnew ?_); (· rfl); (· rfl); (· rfl); (· rfl); simp only [Act.put, List.setIfInBounds_toArray, List.set_cons_zero, List.set_cons_succ])
    | ((with_reducible refine wp_load27 (o := ⟨some 8, .load 27 (.tmp 3), _, _, _, _⟩) ?_ (.tmp 3) ?_ u4.heap.size ?_ (bareU u) qv H8d HU9.out ?_); (· rfl); (· rfl); (· rfl); simp only [Act.put, List.setIfInBounds_toArray, List.set_cons_zero, List.set_cons_succ])
    | ((with_reducible refine wp_store27 (o := ⟨none, .store 27 (.tmp 2) (.tmp 8), _, _, _, _⟩) ?_ (.tmp 2) (.tmp 8) ?_ (w.heap.size + 1) ?_ (bareU u) qv ?_ H8d hone none1 (.slice none 0 0) rfl HZ9.out ?_); (· rfl); (· rfl); (· rfl); (· rfl); simp only [Act.put, List.setIfInBounds_toArray, List.set_cons_zero, List.set_cons_succ]))
  have hfin := HZ9.out.row (bareU u) qv
  have hst9 := HST.out.later HC9.out
  exact bodyPost_ret (ret_url rfl (w.heap.size + 1) (bareU u) qv H8d rfl hfin) rfl ⟨qv, rfl, strs_other (w.heap.size + 1) hst9 HQ.out (fun k hk => Url.setRow_other _ _ _ (Ne.symm hk)), HQ.out.mono (by omega), below_row (Ascii.below2 HB4.out HC9.out) (Nat.le_succ w.heap.size) _⟩
set_option maxHeartbeats 16000000 in
theorem open_any (u : U) (pv : Value) (hf : Fit u) (w : World) (hs : Strs w pv u.path) : Calls Tryz.prog 27 #[.agg (cU u pv)] w (Got w (openU u)) := by
  have H8 := Lib.hid hf.h8
  have H8d : (openU u).h.p.length = 8 := hf.h8
  have H8s : (bareU u).h.p.length = 8 := hf.h8
  have h1 := UrlAt.new w u pv
  have hb1 := (Below.refl w.heap.size w).alloc (Nat.le_refl _) (.cells (cU u pv) 27)
  have hs1 : (w.alloc (.cells (cU u pv) 27)).heap.size = w.heap.size + 1 := Array.size_push _
  have h2 := UrlAt.new (w.alloc (.cells (cU u pv) 27)) none1 (.slice none 0 0)
  rw [hs1] at h2
  have HU := Lib.hid (h1.past (.cells (cU none1 (.slice none 0 0)) 27))
  have HB0 := Lib.hid (hb1.alloc (by omega) (.cells (cU none1 (.slice none 0 0)) 27))
  have HZ := Lib.hid h2
  have HN := Lib.hid (show ((w.alloc (.cells (cU u pv) 27)).alloc (.cells (cU none1 (.slice none 0 0)) 27)).heap.size = w.heap.size + 2 by
    rw [show ((w.alloc (.cells (cU u pv) 27)).alloc (.cells (cU none1 (.slice none 0 0)) 27)).heap.size = (w.alloc (.cells (cU u pv) 27)).heap.size + 1 from Array.size_push _, hs1])
  have CC := Lib.hid (bare_any u pv hf ((w.alloc (.cells (cU u pv) 27)).alloc (.cells (cU none1 (.slice none 0 0)) 27)) (hs.later HB0.out))
  have hU : UrlAt ((w.alloc (.cells (cU u pv) 27)).alloc (.cells #[.string ⟨#[]⟩, .string ⟨#[]⟩, .string ⟨#[]⟩, .int .i64 0, .string ⟨#[]⟩, .int .i64 0, .int .i64 0, .int .i64 0, .int .i64 0, .int .i64 0, .int .i64 0, .int .i64 0, .int .i64 0, .int .i64 0, .int .i64 0, .slice none 0 0, .string ⟨#[]⟩, .string ⟨#[]⟩, .string ⟨#[]⟩, .bool false, .bool false] 27)) w.heap.size u pv := HU.out
  clear h1 h2 hb1 hs1 hs hf
  go_enter Tryz.func27, Tryz.ntmps27
  go_wp2_with ((with_reducible refine wp_load27 (o := ⟨some 4, .load 27 (.tmp 1), _, _, _, _⟩) ?_ (.tmp 1) ?_ w.heap.size ?_ u pv H8.out hU ?_); (· rfl); (· rfl); (· rfl); simp only [Act.put, List.setIfInBounds_toArray, List.set_cons_zero, List.set_cons_succ])
  clear hU
  rw [zero_url]
  generalize (w.alloc (.cells (cU u pv) 27)).alloc (.cells (cU none1 (.slice none 0 0)) 27) = W at HU HB0 HZ HN CC ⊢
  refine CC.out.mono ?_
  rintro e u4 ⟨qv, rfl, hst, hn, hB4⟩
  rw [HN.out] at hn
  have HST := Lib.hid hst
  have hone := strs_one hst
  have HQ := Lib.hid hn
  have HZ4 := Lib.hid (HZ.out.later hB4)
  have HB4 := Lib.hid (Ascii.below2 HB0.out hB4)
  clear CC HU HB0 HZ hst hn hB4
  have hnew : UrlAt (u4.alloc (.cells #[.string ⟨#[]⟩, .string ⟨#[]⟩, .string ⟨#[]⟩, .int .i64 0, .string ⟨#[]⟩, .int .i64 0, .int .i64 0, .int .i64 0, .int .i64 0, .int .i64 0, .int .i64 0, .int .i64 0, .int .i64 0, .int .i64 0, .int .i64 0, .slice none 0 0, .string ⟨#[]⟩, .string ⟨#[]⟩, .string ⟨#[]⟩, .bool false, .bool false] 27)) u4.heap.size none1 (.slice none 0 0) := UrlAt.new u4 none1 (.slice none 0 0)
  have HC5 := Lib.hid (below_row ((Below.refl u4.heap.size u4).alloc (Nat.le_refl _) (.cells #[.string ⟨#[]⟩, .string ⟨#[]⟩, .string ⟨#[]⟩, .int .i64 0, .string ⟨#[]⟩, .int .i64 0, .int .i64 0, .int .i64 0, .int .i64 0, .int .i64 0, .int .i64 0, .int .i64 0, .int .i64 0, .int .i64 0, .int .i64 0, .slice none 0 0, .string ⟨#[]⟩, .string ⟨#[]⟩, .string ⟨#[]⟩, .bool false, .bool false] 27)) (Nat.le_refl _) (cU (bareU u) qv))
  have HU5 := Lib.hid (hnew.row (bareU u) qv)
  have ca := HU5.out.cell 1
  rw [(cU_at (bareU u) qv (by exact H8.out)).2.1] at ca
  have cb := HU5.out.cell 2
  rw [(cU_at (bareU u) qv (by exact H8.out)).2.2.1] at cb
  have fa := HU5.out.free 1
  have fb := HU5.out.free 2
  have HU9 := Lib.hid (show UrlAt ((((u4.alloc (.cells #[.string ⟨#[]⟩, .string ⟨#[]⟩, .string ⟨#[]⟩, .int .i64 0, .string ⟨#[]⟩, .int .i64 0, .int .i64 0, .int .i64 0, .int .i64 0, .int .i64 0, .int .i64 0, .int .i64 0, .int .i64 0, .int .i64 0, .int .i64 0, .slice none 0 0, .string ⟨#[]⟩, .string ⟨#[]⟩, .string ⟨#[]⟩, .bool false, .bool false] 27)).setRow u4.heap.size (cU (bareU u) qv)).setCell ⟨u4.heap.size, 1, none⟩ (.string ⟨#[]⟩)).setCell ⟨u4.heap.size, 2, none⟩ (.string ⟨#[]⟩)) u4.heap.size (openU u) qv from at_pas (at_usr HU5.out (by exact H8.out) []) (by exact H8.out) [])
  have HC9 := Lib.hid (below_set (below_set HC5.out (Nat.le_refl u4.heap.size) 1 (.string ⟨#[]⟩)) (Nat.le_refl u4.heap.size) 2 (.string ⟨#[]⟩))
  have HZ9 := Lib.hid (HZ4.out.later HC9.out)
  go_wp2_with (first
    | ((with_reducible refine wp_store27 (o := ⟨none, .store 27 (.tmp 3) (.tmp 5), _, _, _, _⟩) ?_ (.tmp 3) (.tmp 5) ?_ u4.heap.size ?_ (bareU u) qv ?_ H8s hone none1 (.slice none 0 0) rfl hnew ?_); (· rfl); (· rfl); (· rfl); (· rfl); simp only [Act.put, List.setIfInBounds_toArray, List.set_cons_zero, List.set_cons_succ])
    | ((with_reducible refine wp_load27 (o := ⟨some 8, .load 27 (.tmp 3), _, _, _, _⟩) ?_ (.tmp 3) ?_ u4.heap.size ?_ (openU u) qv H8d HU9.out ?_); (· rfl); (· rfl); (· rfl); simp only [Act.put, List.setIfInBounds_toArray, List.set_cons_zero, List.set_cons_succ])
    | ((with_reducible refine wp_store27 (o := ⟨none, .store 27 (.tmp 2) (.tmp 8), _, _, _, _⟩) ?_ (.tmp 2) (.tmp 8) ?_ (w.heap.size + 1) ?_ (openU u) qv ?_ H8d hone none1 (.slice none 0 0) rfl HZ9.out ?_); (· rfl); (· rfl); (· rfl); (· rfl); simp only [Act.put, List.setIfInBounds_toArray, List.set_cons_zero, List.set_cons_succ]))
  have hfin := HZ9.out.row (openU u) qv
  have hst9 := HST.out.later HC9.out
  exact bodyPost_ret (ret_url rfl (w.heap.size + 1) (openU u) qv H8d rfl hfin) rfl ⟨qv, rfl, strs_other (w.heap.size + 1) hst9 HQ.out (fun k hk => Url.setRow_other _ _ _ (Ne.symm hk)), HQ.out.mono (by omega), below_row (Ascii.below2 HB4.out HC9.out) (Nat.le_succ w.heap.size) _⟩
end Go.Proofs.YtkjkcgbmfglihaaGreatDoor.Show
