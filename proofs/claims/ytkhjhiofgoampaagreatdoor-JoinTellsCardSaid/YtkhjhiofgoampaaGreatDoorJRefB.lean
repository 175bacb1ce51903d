/-
  The document's Inherit, beside, Resolve.
-/
import Derived.Test.YtkhjhiofgoampaaGreatDoorJRefA
namespace Go.Proofs.YtkhjhiofgoampaaGreatDoor.Join
set_option linter.unusedSimpArgs false
set_option linter.unusedVariables false
set_option maxRecDepth 100000


open Go.RowKit Go.Shelf

open Url Show

open Host (none0)

open Path (Strs)

set_option maxRecDepth 100000

set_option maxHeartbeats 16000000 in
theorem refInherit_any (u v : U) (pv qv : Value) (h8 : u.h.p.length = 8) (k8 : v.h.p.length = 8) (w : World) (hs : Strs w pv u.path) : Calls Tryz.prog 15 #[.agg (cU u pv), .agg (cU v qv)] w fun e w' => e = .returned (.agg (cU (inhU u v) pv)) ∧ Below w.heap.size w w' := by
  have hone := strs_one hs
  have h1 := UrlAt.new w u pv
  have hb1 := (Below.refl w.heap.size w).alloc (Nat.le_refl _) (.cells (cU u pv) 27)
  have hs1 : (w.alloc (.cells (cU u pv) 27)).heap.size = w.heap.size + 1 := Array.size_push _
  have h2 := UrlAt.new (w.alloc (.cells (cU u pv) 27)) v qv
  have hb2 := hb1.alloc (by omega) (.cells (cU v qv) 27)
  have hs2 : ((w.alloc (.cells (cU u pv) 27)).alloc (.cells (cU v qv) 27)).heap.size = w.heap.size + 2 := by rw [show ((w.alloc (.cells (cU u pv) 27)).alloc (.cells (cU v qv) 27)).heap.size = (w.alloc (.cells (cU u pv) 27)).heap.size + 1 from Array.size_push _, hs1]
  have h3 := UrlAt.new ((w.alloc (.cells (cU u pv) 27)).alloc (.cells (cU v qv) 27)) none1 (.slice none 0 0)
  rw [hs1] at h2
  rw [hs2] at h3
  have hB0 : Below w.heap.size w (((w.alloc (.cells (cU u pv) 27)).alloc (.cells (cU v qv) 27)).alloc (.cells #[.string ⟨#[]⟩, .string ⟨#[]⟩, .string ⟨#[]⟩, .int .i64 0, .string ⟨#[]⟩, .int .i64 0, .int .i64 0, .int .i64 0, .int .i64 0, .int .i64 0, .int .i64 0, .int .i64 0, .int .i64 0, .int .i64 0, .int .i64 0, .slice none 0 0, .string ⟨#[]⟩, .string ⟨#[]⟩, .string ⟨#[]⟩, .bool false, .bool false] 27)) := hb2.alloc (by omega) (.cells #[.string ⟨#[]⟩, .string ⟨#[]⟩, .string ⟨#[]⟩, .int .i64 0, .string ⟨#[]⟩, .int .i64 0, .int .i64 0, .int .i64 0, .int .i64 0, .int .i64 0, .int .i64 0, .int .i64 0, .int .i64 0, .int .i64 0, .int .i64 0, .slice none 0 0, .string ⟨#[]⟩, .string ⟨#[]⟩, .string ⟨#[]⟩, .bool false, .bool false] 27)
  have hU : UrlAt (((w.alloc (.cells (cU u pv) 27)).alloc (.cells (cU v qv) 27)).alloc (.cells #[.string ⟨#[]⟩, .string ⟨#[]⟩, .string ⟨#[]⟩, .int .i64 0, .string ⟨#[]⟩, .int .i64 0, .int .i64 0, .int .i64 0, .int .i64 0, .int .i64 0, .int .i64 0, .int .i64 0, .int .i64 0, .int .i64 0, .int .i64 0, .slice none 0 0, .string ⟨#[]⟩, .string ⟨#[]⟩, .string ⟨#[]⟩, .bool false, .bool false] 27)) w.heap.size u pv := (h1.past (.cells (cU v qv) 27)).past (.cells #[.string ⟨#[]⟩, .string ⟨#[]⟩, .string ⟨#[]⟩, .int .i64 0, .string ⟨#[]⟩, .int .i64 0, .int .i64 0, .int .i64 0, .int .i64 0, .int .i64 0, .int .i64 0, .int .i64 0, .int .i64 0, .int .i64 0, .int .i64 0, .slice none 0 0, .string ⟨#[]⟩, .string ⟨#[]⟩, .string ⟨#[]⟩, .bool false, .bool false] 27)
  have HU := Lib.hid hU
  have hV : UrlAt (((w.alloc (.cells (cU u pv) 27)).alloc (.cells (cU v qv) 27)).alloc (.cells #[.string ⟨#[]⟩, .string ⟨#[]⟩, .string ⟨#[]⟩, .int .i64 0, .string ⟨#[]⟩, .int .i64 0, .int .i64 0, .int .i64 0, .int .i64 0, .int .i64 0, .int .i64 0, .int .i64 0, .int .i64 0, .int .i64 0, .int .i64 0, .slice none 0 0, .string ⟨#[]⟩, .string ⟨#[]⟩, .string ⟨#[]⟩, .bool false, .bool false] 27)) (w.heap.size + 1) v qv := h2.past (.cells #[.string ⟨#[]⟩, .string ⟨#[]⟩, .string ⟨#[]⟩, .int .i64 0, .string ⟨#[]⟩, .int .i64 0, .int .i64 0, .int .i64 0, .int .i64 0, .int .i64 0, .int .i64 0, .int .i64 0, .int .i64 0, .int .i64 0, .int .i64 0, .slice none 0 0, .string ⟨#[]⟩, .string ⟨#[]⟩, .string ⟨#[]⟩, .bool false, .bool false] 27)
  have HV := Lib.hid hV
  have hZ : UrlAt (((w.alloc (.cells (cU u pv) 27)).alloc (.cells (cU v qv) 27)).alloc (.cells #[.string ⟨#[]⟩, .string ⟨#[]⟩, .string ⟨#[]⟩, .int .i64 0, .string ⟨#[]⟩, .int .i64 0, .int .i64 0, .int .i64 0, .int .i64 0, .int .i64 0, .int .i64 0, .int .i64 0, .int .i64 0, .int .i64 0, .int .i64 0, .slice none 0 0, .string ⟨#[]⟩, .string ⟨#[]⟩, .string ⟨#[]⟩, .bool false, .bool false] 27)) (w.heap.size + 2) none1 (.slice none 0 0) := h3
  have HZ := Lib.hid hZ
  have HB0 := Lib.hid hB0
  have c20 := hU.cell 20
  rw [(cU_at u pv h8).2.2.2.2.2.2.2.2.2.2] at c20
  obtain ⟨h, hh⟩ : ∃ h, u.hf = h := ⟨_, rfl⟩
  rw [hh] at c20
  clear h1 h2 h3 hb1 hb2 hs1 hs2 hB0 hs
  cases h
  · rw [inh_no hh]
    go_enter Tryz.func15, Tryz.ntmps15
    go_upto_region 2 with fail
    clear hU hV hZ c20
    generalize (((w.alloc (.cells (cU u pv) 27)).alloc (.cells (cU v qv) 27)).alloc (.cells #[.string ⟨#[]⟩, .string ⟨#[]⟩, .string ⟨#[]⟩, .int .i64 0, .string ⟨#[]⟩, .int .i64 0, .int .i64 0, .int .i64 0, .int .i64 0, .int .i64 0, .int .i64 0, .int .i64 0, .int .i64 0, .int .i64 0, .int .i64 0, .slice none 0 0, .string ⟨#[]⟩, .string ⟨#[]⟩, .string ⟨#[]⟩, .bool false, .bool false] 27)) = W at HU HV HZ HB0 ⊢
    have e18 := HV.out.cell 18
    rw [(cU_at v qv k8).2.2.2.2.2.2.2.2.1] at e18
    have d18 := HU.out.cell 18
    rw [(cU_at u pv h8).2.2.2.2.2.2.2.2.1] at d18
    have f18 := HU.out.free 18
    go_upto_region 3 with fail
    clear e18 d18 f18
    have HU2 := Lib.hid (HU.out.frg h8 v.frg)
    have HV2 := Lib.hid (url_set HV.out (by omega : w.heap.size ≠ w.heap.size + 1) (j := 18) (.string (tb v.frg)))
    have HZ2 := Lib.hid (url_set HZ.out (by omega : w.heap.size ≠ w.heap.size + 2) (j := 18) (.string (tb v.frg)))
    have HB2 := Lib.hid (below_set HB0.out (Nat.le_refl _) 18 (.string (tb v.frg)))
    generalize W.setCell ⟨w.heap.size, 18, none⟩ (.string (tb v.frg)) = W2 at HU2 HV2 HZ2 HB2 ⊢
    clear HU HV HZ HB0
    have e20 := HV2.out.cell 20
    rw [(cU_at v qv k8).2.2.2.2.2.2.2.2.2.2] at e20
    have d20 := HU2.out.cell 20
    rw [(cU_at _ pv (by exact h8)).2.2.2.2.2.2.2.2.2.2] at d20
    have f20 := HU2.out.free 20
    go_upto_region 4 with fail
    clear e20 d20 f20
    have hU3 := HU2.out.hf (by exact h8) v.hf
    have hZ3 := url_set HZ2.out (by omega : w.heap.size ≠ w.heap.size + 2) (j := 20) (.bool v.hf)
    have hB3 := below_set HB2.out (Nat.le_refl _) 20 (.bool v.hf)
    generalize W2.setCell ⟨w.heap.size, 20, none⟩ (.bool v.hf) = W3 at hU3 hZ3 hB3 ⊢
    have h8r : ({ u with frg := v.frg, hf := v.hf } : U).h.p.length = 8 := h8
    go_wp2_with (first
      | ((with_reducible refine wp_load27 (o := ⟨some 14, .load 27 (.tmp 2), _, _, _, _⟩) ?_ (.tmp 2) ?_ w.heap.size ?_ { u with frg := v.frg, hf := v.hf } pv h8r hU3 ?_); (· rfl); (· rfl); (· rfl); simp only [Act.put, List.setIfInBounds_toArray, List.set_cons_zero, List.set_cons_succ])
      | ((with_reducible refine wp_store27 (o := ⟨none, .store 27 (.tmp 4) (.tmp 14), _, _, _, _⟩) ?_ (.tmp 4) (.tmp 14) ?_ (w.heap.size + 2) ?_ { u with frg := v.frg, hf := v.hf } pv ?_ h8r hone none1 (.slice none 0 0) rfl hZ3 ?_); (· rfl); (· rfl); (· rfl); (· rfl); simp only [Act.put, List.setIfInBounds_toArray, List.set_cons_zero, List.set_cons_succ]))
    exact bodyPost_ret (ret_url rfl (w.heap.size + 2) ({ u with frg := v.frg, hf := v.hf } : U) pv h8r rfl (hZ3.row { u with frg := v.frg, hf := v.hf } pv)) rfl ⟨rfl, below_row hB3 (by omega) _⟩
  · rw [inh_yes hh]
    go_enter Tryz.func15, Tryz.ntmps15
    go_wp2_with (first
      | ((with_reducible refine wp_load27 (o := ⟨some 14, .load 27 (.tmp 2), _, _, _, _⟩) ?_ (.tmp 2) ?_ w.heap.size ?_ u pv h8 hU ?_); (· rfl); (· rfl); (· rfl); simp only [Act.put, List.setIfInBounds_toArray, List.set_cons_zero, List.set_cons_succ])
      | ((with_reducible refine wp_store27 (o := ⟨none, .store 27 (.tmp 4) (.tmp 14), _, _, _, _⟩) ?_ (.tmp 4) (.tmp 14) ?_ (w.heap.size + 2) ?_ u pv ?_ h8 hone none1 (.slice none 0 0) rfl hZ ?_); (· rfl); (· rfl); (· rfl); (· rfl); simp only [Act.put, List.setIfInBounds_toArray, List.set_cons_zero, List.set_cons_succ]))
    exact bodyPost_ret (ret_url rfl (w.heap.size + 2) u pv h8 rfl (hZ.row u pv)) rfl ⟨rfl, below_row HB0.out (by omega) _⟩

theorem path_at (b : List T) (t : T) : pathU b t = if t = [] then b else if Lib.hasPrefix t [47] = true then Path.parse t else Path.merge b t := rfl

set_option maxHeartbeats 32000000 in
theorem refBeside_any (u : U) (pv : Value) (h8 : u.h.p.length = 8) (hp : u.path.length ≤ 1000) (hpt : ∀ t ∈ u.path, t.length ≤ 30000) (s : ByteArray) (hs : s.size ≤ 400) (w : World) (hst : Strs w pv u.path) :
    Calls Tryz.prog 36 #[.agg (cU u pv), .string s] w fun e w' => ∃ rv, e = .returned (.agg (cU (besU u s.data.toList) rv)) ∧ Strs w' rv (besU u s.data.toList).path ∧ (rv = pv ∧ (besU u s.data.toList).path = u.path ∨ Path.New w.heap.size rv) ∧ Below w.heap.size w w' := by
  have H8 := Lib.hid h8
  have h1 := UrlAt.new w u pv
  have hb1 := (Below.refl w.heap.size w).alloc (Nat.le_refl _) (.cells (cU u pv) 27)
  have hs1 : (w.alloc (.cells (cU u pv) 27)).heap.size = w.heap.size + 1 := Array.size_push _
  have h2 := UrlAt.new (w.alloc (.cells (cU u pv) 27)) none1 (.slice none 0 0)
  rw [hs1] at h2
  have hB0 : Below w.heap.size w ((w.alloc (.cells (cU u pv) 27)).alloc (.cells #[.string ⟨#[]⟩, .string ⟨#[]⟩, .string ⟨#[]⟩, .int .i64 0, .string ⟨#[]⟩, .int .i64 0, .int .i64 0, .int .i64 0, .int .i64 0, .int .i64 0, .int .i64 0, .int .i64 0, .int .i64 0, .int .i64 0, .int .i64 0, .slice none 0 0, .string ⟨#[]⟩, .string ⟨#[]⟩, .string ⟨#[]⟩, .bool false, .bool false] 27)) := hb1.alloc (by omega) (.cells #[.string ⟨#[]⟩, .string ⟨#[]⟩, .string ⟨#[]⟩, .int .i64 0, .string ⟨#[]⟩, .int .i64 0, .int .i64 0, .int .i64 0, .int .i64 0, .int .i64 0, .int .i64 0, .int .i64 0, .int .i64 0, .int .i64 0, .int .i64 0, .slice none 0 0, .string ⟨#[]⟩, .string ⟨#[]⟩, .string ⟨#[]⟩, .bool false, .bool false] 27)
  have hU : UrlAt ((w.alloc (.cells (cU u pv) 27)).alloc (.cells #[.string ⟨#[]⟩, .string ⟨#[]⟩, .string ⟨#[]⟩, .int .i64 0, .string ⟨#[]⟩, .int .i64 0, .int .i64 0, .int .i64 0, .int .i64 0, .int .i64 0, .int .i64 0, .int .i64 0, .int .i64 0, .int .i64 0, .int .i64 0, .slice none 0 0, .string ⟨#[]⟩, .string ⟨#[]⟩, .string ⟨#[]⟩, .bool false, .bool false] 27)) w.heap.size u pv := h1.past (.cells #[.string ⟨#[]⟩, .string ⟨#[]⟩, .string ⟨#[]⟩, .int .i64 0, .string ⟨#[]⟩, .int .i64 0, .int .i64 0, .int .i64 0, .int .i64 0, .int .i64 0, .int .i64 0, .int .i64 0, .int .i64 0, .int .i64 0, .int .i64 0, .slice none 0 0, .string ⟨#[]⟩, .string ⟨#[]⟩, .string ⟨#[]⟩, .bool false, .bool false] 27)
  have HB0 := Lib.hid hB0
  have HU0 := Lib.hid hU
  have HZ0 := Lib.hid (show UrlAt ((w.alloc (.cells (cU u pv) 27)).alloc (.cells #[.string ⟨#[]⟩, .string ⟨#[]⟩, .string ⟨#[]⟩, .int .i64 0, .string ⟨#[]⟩, .int .i64 0, .int .i64 0, .int .i64 0, .int .i64 0, .int .i64 0, .int .i64 0, .int .i64 0, .int .i64 0, .int .i64 0, .int .i64 0, .slice none 0 0, .string ⟨#[]⟩, .string ⟨#[]⟩, .string ⟨#[]⟩, .bool false, .bool false] 27)) (w.heap.size + 1) none1 (.slice none 0 0) from h2)
  have HSZ := Lib.hid (show ((w.alloc (.cells (cU u pv) 27)).alloc (.cells #[.string ⟨#[]⟩, .string ⟨#[]⟩, .string ⟨#[]⟩, .int .i64 0, .string ⟨#[]⟩, .int .i64 0, .int .i64 0, .int .i64 0, .int .i64 0, .int .i64 0, .int .i64 0, .int .i64 0, .int .i64 0, .int .i64 0, .int .i64 0, .slice none 0 0, .string ⟨#[]⟩, .string ⟨#[]⟩, .string ⟨#[]⟩, .bool false, .bool false] 27)).heap.size = w.heap.size + 2 by
    rw [show ((w.alloc (.cells (cU u pv) 27)).alloc (.cells #[.string ⟨#[]⟩, .string ⟨#[]⟩, .string ⟨#[]⟩, .int .i64 0, .string ⟨#[]⟩, .int .i64 0, .int .i64 0, .int .i64 0, .int .i64 0, .int .i64 0, .int .i64 0, .int .i64 0, .int .i64 0, .int .i64 0, .int .i64 0, .slice none 0 0, .string ⟨#[]⟩, .string ⟨#[]⟩, .string ⟨#[]⟩, .bool false, .bool false] 27)).heap.size = (w.alloc (.cells (cU u pv) 27)).heap.size + 1 from Array.size_push _, hs1])
  have HS0 := Lib.hid hst
  obtain ⟨T, hT⟩ : ∃ x, tb (tA s.data.toList) = x := ⟨_, rfl⟩
  obtain ⟨Q, hQ⟩ : ∃ x, tb (tQ s.data.toList) = x := ⟨_, rfl⟩
  obtain ⟨F, hF⟩ : ∃ x, tb (tF s.data.toList) = x := ⟨_, rfl⟩
  obtain ⟨hq, hhq⟩ : ∃ c, tHQ s.data.toList = c := ⟨_, rfl⟩
  obtain ⟨hf, hhf⟩ : ∃ c, tHF s.data.toList = c := ⟨_, rfl⟩
  have hT1 : T.size ≤ 400 := by rw [size_tb hT]; exact Nat.le_trans (Nat.le_trans (bef_len _ _) (bef_len _ _)) hs
  have hQ1 : Q.size ≤ 400 := by rw [size_tb hQ]; exact Nat.le_trans (Nat.le_trans (aft_len _ _) (bef_len _ _)) hs
  have hF1 : F.size ≤ 400 := by rw [size_tb hF]; exact Nat.le_trans (aft_len _ _) hs
  have CT := Lib.hid (fun x => refTail_any s (by omega) T Q F hq hf hT hQ hF hhq hhf x)
  have CB := Lib.hid (fun x hx => refBare_any u pv h8 x hx)
  have CM := Lib.hid (fun x hx => refMerge_any pv u.path hp hpt T (by omega) x hx)
  have CP := Lib.hid (fun x => refPathParse_any T (by omega) (Path.parse T.data.toList) rfl x)
  have hE2 : (⟨(Pct.encode 2 Q.data.toList).toArray⟩ : ByteArray) = tb (Pct.encode 2 Q.data.toList) := rfl
  have hE1 : (⟨(Pct.encode 1 F.data.toList).toArray⟩ : ByteArray) = tb (Pct.encode 1 F.data.toList) := rfl
  have CQ := Lib.hid (fun x => Pct.refEncode_any Q (by omega) 2 x)
  have CF := Lib.hid (fun x => Pct.refEncode_any F (by omega) 1 x)
  rw [hE2] at CQ
  rw [hE1] at CF
  obtain ⟨e, he⟩ : ∃ c, T.toList.isEmpty = c := ⟨_, rfl⟩
  have hTl : tA s.data.toList = T.data.toList := (list_tb hT).symm
  have hnil : T.data.toList = [] ↔ e = true := by rw [← he, Path.tl, List.isEmpty_iff]
  have hTe : (tA s.data.toList).isEmpty = e := by rw [hTl, ← he, Path.tl]
  -- the query and the fragment, as they are told
  have hbes : besU u s.data.toList = { u with path := pathU u.path T.data.toList, qry := if hq || !e then Pct.encode 2 Q.data.toList else u.qry, hq := if hq || !e then hq else u.hq, frg := Pct.encode 1 F.data.toList, hf := hf } := by
    unfold besU
    rw [hTe, hTl, hhq, hhf, list_tb hQ, list_tb hF]
  have hFn : hf = false → Pct.encode 1 F.data.toList = [] := fun h => by rw [list_tb hF, tF_nil (hhf.trans h)]; rfl
  have hQn : hq = false → Pct.encode 2 Q.data.toList = [] := fun h => by rw [list_tb hQ, tQ_nil (hhq.trans h)]; rfl
  rw [hbes]
  generalize Pct.encode 2 Q.data.toList = QQ at CQ hQn ⊢
  generalize Pct.encode 1 F.data.toList = FF at CF hFn ⊢
  have HP0 := Lib.hid (show e = true → pathU u.path T.data.toList = u.path from fun h => by unfold pathU; rw [if_pos (hnil.2 h)])
  have hfirst : e = false → ∃ h : 0 < T.size, Lib.hasPrefix T.data.toList [47] = ((T[0].toNat : Int) == 47) := by
    intro h
    have h0 : 0 < T.size := by
      rcases Nat.eq_zero_or_pos T.size with h' | h'
      · have : T.data.toList = [] := List.length_eq_zero_iff.1 (by rw [size_list]; exact h')
        rw [hnil.1 this] at h; cases h
      · exact h'
    refine ⟨h0, ?_⟩
    have e1 := Pct.drop_cons T 0 h0
    rw [List.drop_zero] at e1
    conv => lhs; rw [e1]
    rw [pre_one, Bool.eq_iff_iff, beq_iff_eq, beq_iff_eq]
    constructor
    · intro h; rw [h]; rfl
    · intro h; exact UInt8.toNat_inj.1 (by simpa using (by omega : T[0].toNat = 47))
  have HP1 := Lib.hid (show e = false → Lib.hasPrefix T.data.toList [47] = true → pathU u.path T.data.toList = Path.parse T.data.toList from fun h k => by
    unfold pathU
    rw [if_neg (fun h0 => by rw [hnil.1 h0] at h; cases h), if_pos k])
  have HP2 := Lib.hid (show e = false → Lib.hasPrefix T.data.toList [47] = false → pathU u.path T.data.toList = Path.merge u.path T.data.toList from fun h k => by
    unfold pathU
    rw [if_neg (fun h0 => by rw [hnil.1 h0] at h; cases h), if_neg (by rw [k]; simp)])
  generalize pathU u.path T.data.toList = V at HP0 HP1 HP2 ⊢
  generalize Path.parse T.data.toList = V1 at CP HP1
  generalize Path.merge u.path T.data.toList = V2 at CM HP2
  obtain ⟨UU, hUU⟩ : ∃ x, ({ u with path := V, qry := if hq || !e then QQ else u.qry, hq := if hq || !e then hq else u.hq, frg := FF, hf := hf } : U) = x := ⟨_, rfl⟩
  rw [hUU]
  have HUU := Lib.hid hUU
  clear hUU
  have HE := Lib.hid he
  have HF1 := Lib.hid hfirst
  have HFn := Lib.hid hFn
  have HQn := Lib.hid hQn
  have hone := strs_one hst
  clear h1 h2 hb1 hs1 hB0 h8 hT hQ hF hhq hhf hT1 hQ1 hF1 hE1 hE2 hTl hnil hTe hbes hFn hQn hfirst he hst hp hpt hs
  go_enter Tryz.func36, Tryz.ntmps36
  go_wp2_with fail
  clear hU
  generalize (w.alloc (.cells (cU u pv) 27)).alloc (.cells #[.string ⟨#[]⟩, .string ⟨#[]⟩, .string ⟨#[]⟩, .int .i64 0, .string ⟨#[]⟩, .int .i64 0, .int .i64 0, .int .i64 0, .int .i64 0, .int .i64 0, .int .i64 0, .int .i64 0, .int .i64 0, .int .i64 0, .int .i64 0, .slice none 0 0, .string ⟨#[]⟩, .string ⟨#[]⟩, .string ⟨#[]⟩, .bool false, .bool false] 27) = W at HB0 HU0 HZ0 HSZ ⊢
  refine (CT.out _).mono ?_
  rintro e0 u1 ⟨rfl, hB⟩
  have HB1 := Lib.hid (Ascii.below2 HB0.out hB)
  have HU1 := Lib.hid (HU0.out.later hB)
  have HZ1 := Lib.hid (HZ0.out.later hB)
  have HL1 := Lib.hid (show w.heap.size + 2 ≤ u1.heap.size from by rw [← HSZ.out]; exact hB.size)
  clear CT hB HB0 HU0 HZ0 HSZ
  have hu := HU1.out
  go_wp2_with ((with_reducible refine wp_load27 (o := ⟨some 19, .load 27 (.tmp 2), _, _, _, _⟩) ?_ (.tmp 2) ?_ w.heap.size ?_ u pv H8.out hu ?_); (· rfl); (· rfl); (· rfl); simp only [Act.put, List.setIfInBounds_toArray, List.set_cons_zero, List.set_cons_succ])
  refine (CB.out _ (HS0.out.later HB1.out)).mono ?_
  rintro e0 u2 ⟨rfl, hB⟩
  have HB2 := Lib.hid (Ascii.below2 HB1.out hB)
  have HU2 := Lib.hid (HU1.out.later hB)
  have HZ2 := Lib.hid (HZ1.out.later hB)
  have HL2 := Lib.hid (Nat.le_trans HL1.out hB.size)
  clear CB hB hu HB1 HU1 HZ1 HL1
  have H8b : (bareU u).h.p.length = 8 := H8.out
  have hnew := new_url u2
  have hC := below_url u2 (bareU u) pv
  have HB3 := Lib.hid (Ascii.below2 HB2.out hC)
  have HU3 := Lib.hid (HU2.out.later hC)
  have HZ3 := Lib.hid (HZ2.out.later hC)
  have HG3 := Lib.hid (hnew.row (bareU u) pv)
  clear hC HB2 HU2 HZ2
  go_upto_region 3 with ((with_reducible refine wp_store27 (o := ⟨none, .store 27 (.tmp 10) (.tmp 20), _, _, _, _⟩) ?_ (.tmp 10) (.tmp 20) ?_ u2.heap.size ?_ (bareU u) pv ?_ H8b hone none1 (.slice none 0 0) rfl hnew ?_); (· rfl); (· rfl); (· rfl); (· rfl); simp only [Act.put, List.setIfInBounds_toArray, List.set_cons_zero, List.set_cons_succ])
  generalize (u2.alloc (.cells #[.string ⟨#[]⟩, .string ⟨#[]⟩, .string ⟨#[]⟩, .int .i64 0, .string ⟨#[]⟩, .int .i64 0, .int .i64 0, .int .i64 0, .int .i64 0, .int .i64 0, .int .i64 0, .int .i64 0, .int .i64 0, .int .i64 0, .int .i64 0, .slice none 0 0, .string ⟨#[]⟩, .string ⟨#[]⟩, .string ⟨#[]⟩, .bool false, .bool false] 27)).setRow u2.heap.size (cU (bareU u) pv) = W3 at HB3 HU3 HZ3 HG3 ⊢
  clear hnew
  generalize u2.heap.size = g at HG3 HL2 ⊢
  have HA3 := Lib.hid (show Apart g pv u.path from apart_old HS0.out (Nat.le_trans (Nat.le_trans (Nat.le_add_right _ 2) HL2.out) (Nat.le_refl _)))
  have HX1 := Lib.hid (rfl : ({ bareU u with path := V, qry := if e then u.qry else [], hq := if e then u.hq else false } : U) = _)
  obtain ⟨X1, hX1⟩ : ∃ x, ({ bareU u with path := V, qry := if e then u.qry else [], hq := if e then u.hq else false } : U) = x := ⟨_, rfl⟩
  clear HX1
  have HX1 := Lib.hid hX1
  have he := HE.out
  go_upto_if 22 with fail
  clear he hX1
  go_cut [] from 23 to 35 (fun wx => ∃ rv, Hid (UrlAt wx g X1 rv) ∧ Hid (Strs wx rv V) ∧ Hid (Apart g rv V) ∧ Hid (rv = pv ∧ V = u.path ∨ Path.New (w.heap.size + 2) rv) ∧ Hid (UrlAt wx (w.heap.size + 1) none1 (.slice none 0 0)) ∧ Hid (Below w.heap.size w wx))
  case first =>
    clear CQ CF HFn HQn
    cases e
    · obtain ⟨h0, hpre⟩ := HF1.out (by first | rfl | trivial)
      have hu := HU3.out.cell 15
      rw [(cU_at u pv H8.out).2.2.2.2.2.1] at hu
      clear HF1 HP0
      go_wp2_with fail
      refine (CM.out _ (HS0.out.later HB3.out)).mono ?_
      rintro e0 u4 ⟨v1, rfl, hst, hn, hB⟩
      obtain ⟨ra, rc, rfl, hst'⟩ : ∃ ra rc, v1 = .slice ra V2.length rc ∧ Strs u4 v1 V2 := by
        obtain ⟨ra, rc, h, _⟩ := id hst
        exact ⟨ra, rc, h, hst⟩
      have hlt := HG3.out.lt
      have HST := Lib.hid hst'
      have HN := Lib.hid (show Path.New (g + 1) (.slice ra V2.length rc) from hn.mono hlt)
      have HG4 := Lib.hid (HG3.out.later hB)
      have HZ4 := Lib.hid (HZ3.out.later hB)
      have HB4 := Lib.hid (Ascii.below2 HB3.out hB)
      clear hst hst' hn hB hu CM HG3 HU3 HZ3 HB3 HA3
      have hzg : g ≠ w.heap.size + 1 := by have := HL2.out; omega
      have hwg : w.heap.size ≤ g := by have := HL2.out; omega
      have d15 := HG4.out.cell 15
      rw [(cU_at (bareU u) pv (by exact H8.out)).2.2.2.2.2.1] at d15
      have d17 := HG4.out.cell 17
      rw [(cU_at (bareU u) pv (by exact H8.out)).2.2.2.2.2.2.2.1] at d17
      have d19 := HG4.out.cell 19
      rw [(cU_at (bareU u) pv (by exact H8.out)).2.2.2.2.2.2.2.2.2.1] at d19
      have f15 := HG4.out.free 15
      have f17 := HG4.out.free 17
      have f19 := HG4.out.free 19
      obtain ⟨b47, hb47⟩ : ∃ b, ((T[0].toNat : Int) == 47) = b := ⟨_, rfl⟩
      rw [hb47] at hpre
      have HPre := Lib.hid hpre
      clear hpre
      cases b47
      · have hv : V = V2 := HP2.out (by first | rfl | trivial) HPre.out
        have HV := Lib.hid hv
        clear hv HP1 HP2 CP
        go_wp2_with fail
        have HG5 := ((HG4.out.pth (by exact H8.out) V2 (.slice ra V2.length rc)).qry (by exact H8.out) []).hq (by exact H8.out) false
        have hx : ({ bareU u with path := V2, qry := [], hq := false } : U) = X1 := by rw [← HX1.out, HV.out]; rfl
        have HG6 : UrlAt (((u4.setCell ⟨g, 15, none⟩ (.slice ra V2.length rc)).setCell ⟨g, 17, none⟩ (.string ⟨#[]⟩)).setCell ⟨g, 19, none⟩ (.bool false)) g X1 (.slice ra V2.length rc) := by rw [← hx]; exact HG5
        have HZ6 := url_set (url_set (url_set HZ4.out hzg (j := 15) (.slice ra V2.length rc)) hzg (j := 17) (.string ⟨#[]⟩)) hzg (j := 19) (.bool false)
        have HB6 := below_set (below_set (below_set HB4.out hwg 15 (.slice ra V2.length rc)) hwg 17 (.string ⟨#[]⟩)) hwg 19 (.bool false)
        have HS6 : Strs (((u4.setCell ⟨g, 15, none⟩ (.slice ra V2.length rc)).setCell ⟨g, 17, none⟩ (.string ⟨#[]⟩)).setCell ⟨g, 19, none⟩ (.bool false)) (.slice ra V2.length rc) V := by
          rw [HV.out]
          exact strs_other g HST.out HN.out (fun k hk => (set_other _ _ _ _ (Ne.symm hk)).trans ((set_other _ _ _ _ (Ne.symm hk)).trans (set_other _ _ _ _ (Ne.symm hk))))
        go_meet
        exact ⟨_, Lib.hid HG6, Lib.hid HS6, Lib.hid (apart_new HN.out), Lib.hid (.inr (HN.out.mono (by have := HL2.out; omega))), Lib.hid HZ6, Lib.hid HB6⟩
      · have hv : V = V1 := HP1.out (by first | rfl | trivial) HPre.out
        have HV := Lib.hid hv
        clear hv HP1 HP2
        go_wp2_with fail
        have HG5 := Lib.hid (HG4.out.pth (by exact H8.out) V2 (.slice ra V2.length rc))
        have HZ5 := Lib.hid (url_set HZ4.out hzg (j := 15) (.slice ra V2.length rc))
        have HB5 := Lib.hid (below_set HB4.out hwg 15 (.slice ra V2.length rc))
        generalize u4.setCell ⟨g, 15, none⟩ (.slice ra V2.length rc) = u5 at HG5 HZ5 HB5 ⊢
        clear d15 d17 d19 f15 f17 f19 HG4 HZ4 HB4 HN HST
        refine (CP.out _).mono ?_
        rintro e0 u6 ⟨v2, rfl, hst, hn, hB⟩
        obtain ⟨sa, sc, rfl, hst'⟩ : ∃ ra rc, v2 = .slice ra V1.length rc ∧ Strs u6 v2 V1 := by
          obtain ⟨ra, rc, h, _⟩ := id hst
          exact ⟨ra, rc, h, hst⟩
        have hlt2 := HG5.out.lt
        have HST := Lib.hid hst'
        have HN := Lib.hid (show Path.New (g + 1) (.slice sa V1.length sc) from hn.mono hlt2)
        have HG6 := Lib.hid (HG5.out.later hB)
        have HZ6 := Lib.hid (HZ5.out.later hB)
        have HB6 := Lib.hid (Ascii.below2 HB5.out hB)
        clear hst hst' hn hB CP HG5 HZ5 HB5
        have d15 := HG6.out.cell 15
        rw [(cU_at _ _ (by exact H8.out)).2.2.2.2.2.1] at d15
        have d17 := HG6.out.cell 17
        rw [(cU_at _ _ (by exact H8.out)).2.2.2.2.2.2.2.1] at d17
        have d19 := HG6.out.cell 19
        rw [(cU_at _ _ (by exact H8.out)).2.2.2.2.2.2.2.2.2.1] at d19
        have f15 := HG6.out.free 15
        have f17 := HG6.out.free 17
        have f19 := HG6.out.free 19
        go_wp2_with fail
        have HG7 := ((HG6.out.pth (by exact H8.out) V1 (.slice sa V1.length sc)).qry (by exact H8.out) []).hq (by exact H8.out) false
        have hx : ({ bareU u with path := V1, qry := [], hq := false } : U) = X1 := by rw [← HX1.out, HV.out]; rfl
        have HG8 : UrlAt (((u6.setCell ⟨g, 15, none⟩ (.slice sa V1.length sc)).setCell ⟨g, 17, none⟩ (.string ⟨#[]⟩)).setCell ⟨g, 19, none⟩ (.bool false)) g X1 (.slice sa V1.length sc) := by rw [← hx]; exact HG7
        have HZ8 := url_set (url_set (url_set HZ6.out hzg (j := 15) (.slice sa V1.length sc)) hzg (j := 17) (.string ⟨#[]⟩)) hzg (j := 19) (.bool false)
        have HB8 := below_set (below_set (below_set HB6.out hwg 15 (.slice sa V1.length sc)) hwg 17 (.string ⟨#[]⟩)) hwg 19 (.bool false)
        have HS8 : Strs (((u6.setCell ⟨g, 15, none⟩ (.slice sa V1.length sc)).setCell ⟨g, 17, none⟩ (.string ⟨#[]⟩)).setCell ⟨g, 19, none⟩ (.bool false)) (.slice sa V1.length sc) V := by
          rw [HV.out]
          exact strs_other g HST.out HN.out (fun k hk => (set_other _ _ _ _ (Ne.symm hk)).trans ((set_other _ _ _ _ (Ne.symm hk)).trans (set_other _ _ _ _ (Ne.symm hk))))
        go_meet
        exact ⟨_, Lib.hid HG8, Lib.hid HS8, Lib.hid (apart_new HN.out), Lib.hid (.inr (HN.out.mono (by have := HL2.out; omega))), Lib.hid HZ8, Lib.hid HB8⟩
    · have hv : V = u.path := HP0.out (by first | rfl | trivial)
      have hx : bareU u = X1 := by rw [← HX1.out, hv]; rfl
      have HVV := Lib.hid hv
      have HG4 := HG3.out
      rw [hx] at HG4
      have HS4 := HS0.out.later HB3.out
      have HA4 := HA3.out
      have HA4' : pv = pv ∧ V = u.path ∨ Path.New (w.heap.size + 2) pv := .inl ⟨rfl, hv⟩
      rw [← hv] at HS4 HA4
      have HW := Lib.hid (show Hid (UrlAt W3 g X1 pv) ∧ Hid (Strs W3 pv V) ∧ Hid (Apart g pv V) ∧ Hid (pv = pv ∧ V = u.path ∨ Path.New (w.heap.size + 2) pv) ∧ Hid (UrlAt W3 (w.heap.size + 1) none1 (.slice none 0 0)) ∧ Hid (Below w.heap.size w W3) from ⟨Lib.hid HG4, Lib.hid HS4, Lib.hid HA4, Lib.hid HA4', HZ3, HB3⟩)
      clear hv hx HG4 HS4 HA4 HA4' HG3 HU3 HZ3 HB3 HA3 HF1 HP0 HP1 HP2 CM CP
      go_wp2
      go_meet
      exact ⟨pv, HW.out.1, HW.out.2.1, HW.out.2.2.1, Lib.hid (.inl ⟨rfl, HVV.out⟩), HW.out.2.2.2.2⟩
  case rest =>
    obtain ⟨rv, HG4, HS4, HA4, HA5, HZ4, HB4⟩ := hcut
    have HA6 := Lib.hid (show Apart (w.heap.size + 1) rv V from by
      rcases HA5.out with ⟨e1, e2⟩ | h
      · rw [e1, e2]; exact apart_old HS0.out (Nat.le_succ _)
      · exact apart_new h)
    clear HG3 HU3 HZ3 HB3 HA3 HF1 HP0 HP1 HP2 CM CP hone
    have H81 := Lib.hid (show X1.h.p.length = 8 by rw [← HX1.out]; exact H8.out)
    obtain ⟨X2, hX2⟩ : ∃ x, (if hq then { X1 with qry := QQ, hq := true } else X1 : U) = x := ⟨_, rfl⟩
    have HX2 := Lib.hid hX2
    clear hX2
    have hzg : g ≠ w.heap.size + 1 := by have := HL2.out; omega
    have hwg : w.heap.size ≤ g := by have := HL2.out; omega
    go_upto_if 36 with fail
    go_cut [] from 37 to 40 (fun wx => Hid (UrlAt wx g X2 rv) ∧ Hid (Strs wx rv V) ∧ Hid (UrlAt wx (w.heap.size + 1) none1 (.slice none 0 0)) ∧ Hid (Below w.heap.size w wx))
    case first =>
      clear CF
      cases hq
      · have hx : X1 = X2 := HX2.out
        have HW := Lib.hid (show Hid (UrlAt wc g X2 rv) ∧ Hid (Strs wc rv V) ∧ Hid (UrlAt wc (w.heap.size + 1) none1 (.slice none 0 0)) ∧ Hid (Below w.heap.size w wc) from ⟨by rw [← hx]; exact HG4, HS4, HZ4, HB4⟩)
        clear hx HG4 HS4 HZ4 HB4 CQ
        go_wp2
        go_meet
        exact HW.out
      · have hx : { X1 with qry := QQ, hq := true } = X2 := HX2.out
        go_wp2_with fail
        refine (CQ.out _).mono ?_
        rintro e0 u5 ⟨rfl, hB⟩
        have HG5 := Lib.hid (HG4.out.later hB)
        have HS5 := Lib.hid (HS4.out.later hB)
        have HZ5 := Lib.hid (HZ4.out.later hB)
        have HB5 := Lib.hid (Ascii.below2 HB4.out hB)
        clear CQ hB HG4 HS4 HZ4 HB4
        have d17 := HG5.out.cell 17
        rw [(cU_at X1 rv H81.out).2.2.2.2.2.2.2.1] at d17
        have d19 := HG5.out.cell 19
        rw [(cU_at X1 rv H81.out).2.2.2.2.2.2.2.2.2.1] at d19
        have f17 := HG5.out.free 17
        have f19 := HG5.out.free 19
        have HW := Lib.hid (show Hid (UrlAt ((u5.setCell ⟨g, 17, none⟩ (.string (tb QQ))).setCell ⟨g, 19, none⟩ (.bool true)) g X2 rv) ∧ Hid (Strs ((u5.setCell ⟨g, 17, none⟩ (.string (tb QQ))).setCell ⟨g, 19, none⟩ (.bool true)) rv V) ∧ Hid (UrlAt ((u5.setCell ⟨g, 17, none⟩ (.string (tb QQ))).setCell ⟨g, 19, none⟩ (.bool true)) (w.heap.size + 1) none1 (.slice none 0 0)) ∧ Hid (Below w.heap.size w ((u5.setCell ⟨g, 17, none⟩ (.string (tb QQ))).setCell ⟨g, 19, none⟩ (.bool true))) from
          ⟨by rw [← hx]; exact Lib.hid ((HG5.out.qry H81.out QQ).hq (by exact H81.out) true), Lib.hid (strs_apart HS5.out HA4.out (fun k hk => (set_other _ _ _ _ (Ne.symm hk)).trans (set_other _ _ _ _ (Ne.symm hk)))), Lib.hid (url_set (url_set HZ5.out hzg (j := 17) _) hzg (j := 19) _), Lib.hid (below_set (below_set HB5.out hwg 17 _) hwg 19 _)⟩)
        clear HG5 HS5 HZ5 HB5 hx
        go_wp2
        go_meet
        exact HW.out
    case rest =>
      obtain ⟨HG6, HS6, HZ6, HB6⟩ := hcut
      have H82 := Lib.hid (show X2.h.p.length = 8 by rw [← HX2.out]; split <;> exact H81.out)
      have hX : UU = { X2 with frg := FF, hf := hf } := by
        rw [← HUU.out, ← HX2.out, ← HX1.out]
        cases hq
        · cases e
          · rw [HQn.out (by first | rfl | trivial)]; rfl
          · rfl
        · rfl
      have hpX : X2.path = V := by rw [← HX2.out, ← HX1.out]; split <;> rfl
      have hfX : X2.frg = [] ∧ X2.hf = false := by rw [← HX2.out, ← HX1.out]; split <;> exact ⟨rfl, rfl⟩
      have HX := Lib.hid hX
      have HpX := Lib.hid hpX
      have HfX := Lib.hid hfX
      clear hX hpX hfX HX1 HX2 HG4 HS4 HZ4 HB4 CQ HQn
      have hone := strs_one HS6.out
      cases hf
      · have hF0 := HFn.out (by first | rfl | trivial)
        have hr : ({ X2 with frg := FF, hf := false } : U) = X2 := by
          have h1 := HfX.out.1
          have h2 := HfX.out.2
          rw [hF0]
          cases X2
          simp only at h1 h2
          rw [h1, h2]
        have HR := Lib.hid (HX.out.trans hr)
        have h82 := H82.out
        have hu := HG6.out
        have hz := HZ6.out
        clear hF0 hr HG6 HZ6 CF
        go_wp2_with (first
          | ((with_reducible refine wp_load27 (o := ⟨some 46, .load 27 (.tmp 10), _, _, _, _⟩) ?_ (.tmp 10) ?_ g ?_ X2 rv h82 hu ?_); (· rfl); (· rfl); (· rfl); simp only [Act.put, List.setIfInBounds_toArray, List.set_cons_zero, List.set_cons_succ])
          | ((with_reducible refine wp_store27 (o := ⟨none, .store 27 (.tmp 4) (.tmp 46), _, _, _, _⟩) ?_ (.tmp 4) (.tmp 46) ?_ (w.heap.size + 1) ?_ X2 rv ?_ h82 hone none1 (.slice none 0 0) rfl hz ?_); (· rfl); (· rfl); (· rfl); (· rfl); simp only [Act.put, List.setIfInBounds_toArray, List.set_cons_zero, List.set_cons_succ]))
        exact bodyPost_ret (ret_url rfl (w.heap.size + 1) X2 rv h82 rfl (hz.row X2 rv)) rfl (by rw [HR.out]; exact ⟨rv, rfl, by rw [HpX.out]; exact strs_apart HS6.out HA6.out (fun k hk => Url.setRow_other _ _ _ (Ne.symm hk)), by rw [HpX.out]; exact HA5.out.imp id (fun h => h.mono (by omega)), below_row HB6.out (Nat.le_succ _) _⟩)
      · go_wp2_with fail
        refine (CF.out _).mono ?_
        rintro e0 u7 ⟨rfl, hB⟩
        have HG7 := Lib.hid (HG6.out.later hB)
        have HS7 := Lib.hid (HS6.out.later hB)
        have HZ7 := Lib.hid (HZ6.out.later hB)
        have HB7 := Lib.hid (Ascii.below2 HB6.out hB)
        clear CF hB HG6 HS6 HZ6 HB6
        have d18 := HG7.out.cell 18
        rw [(cU_at X2 rv H82.out).2.2.2.2.2.2.2.2.1] at d18
        have d20 := HG7.out.cell 20
        rw [(cU_at X2 rv H82.out).2.2.2.2.2.2.2.2.2.2] at d20
        have f18 := HG7.out.free 18
        have f20 := HG7.out.free 20
        have hu8 : UU.h.p.length = 8 := by rw [HX.out]; exact H82.out
        have hu : UrlAt ((u7.setCell ⟨g, 18, none⟩ (.string (tb FF))).setCell ⟨g, 20, none⟩ (.bool true)) g UU rv := by
          rw [HX.out]
          exact (HG7.out.frg H82.out FF).hf (by exact H82.out) true
        have hs : Strs ((u7.setCell ⟨g, 18, none⟩ (.string (tb FF))).setCell ⟨g, 20, none⟩ (.bool true)) rv V := strs_apart HS7.out HA4.out (fun k hk => (set_other _ _ _ _ (Ne.symm hk)).trans (set_other _ _ _ _ (Ne.symm hk)))
        have hz := url_set (url_set HZ7.out hzg (j := 18) (.string (tb FF))) hzg (j := 20) (.bool true)
        have HB8 := below_set (below_set HB7.out hwg 18 (.string (tb FF))) hwg 20 (.bool true)
        have HS8 := Lib.hid hs
        have hpu : UU.path = V := by rw [HX.out]; exact HpX.out
        have HPU := Lib.hid hpu
        clear HG7 HS7 HZ7 HB7 hs hpu
        go_wp2_with (first
          | ((with_reducible refine wp_load27 (o := ⟨some 46, .load 27 (.tmp 10), _, _, _, _⟩) ?_ (.tmp 10) ?_ g ?_ UU rv hu8 hu ?_); (· rfl); (· rfl); (· rfl); simp only [Act.put, List.setIfInBounds_toArray, List.set_cons_zero, List.set_cons_succ])
          | ((with_reducible refine wp_store27 (o := ⟨none, .store 27 (.tmp 4) (.tmp 46), _, _, _, _⟩) ?_ (.tmp 4) (.tmp 46) ?_ (w.heap.size + 1) ?_ UU rv ?_ hu8 hone none1 (.slice none 0 0) rfl hz ?_); (· rfl); (· rfl); (· rfl); (· rfl); simp only [Act.put, List.setIfInBounds_toArray, List.set_cons_zero, List.set_cons_succ]))
        exact bodyPost_ret (ret_url rfl (w.heap.size + 1) UU rv hu8 rfl (hz.row UU rv)) rfl ⟨rv, rfl, by rw [HPU.out]; exact strs_apart HS8.out HA6.out (fun k hk => Url.setRow_other _ _ _ (Ne.symm hk)), by rw [HPU.out]; exact HA5.out.imp id (fun h => h.mono (by omega)), below_row HB8 (Nat.le_succ _) _⟩

end Go.Proofs.YtkhjhiofgoampaaGreatDoor.Join
