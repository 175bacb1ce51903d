/-
  The steps: the query and the fragment, and the path.
-/
import Derived.Test.YtkhjhiofgoampaaGreatDoorJStep
namespace Go.Proofs.YtkhjhiofgoampaaGreatDoor.Join
set_option linter.unusedSimpArgs false
set_option linter.unusedVariables false
set_option maxRecDepth 100000


open Go.RowKit Go.Shelf

open Url Show

open Host (none0)

open Path (Strs)

set_option maxRecDepth 100000

theorem ret_step {fn : Func} {d : Tmp} (h : fn.results = #[.cell d 83]) {tmps : Array Value} {W : World} (g : Nat) (u : U) (pv : Value) (t : ByteArray) (h8 : u.h.p.length = 8) (hp : tmps.getD d undef = .pointer (some ⟨g, 0, none⟩)) (hr : StepAt W g u pv t) :
    (results fn tmps).run Tryz.prog W = .ok (.agg (cS u pv t)) W := by
  have hp' : tmps[d]?.getD undef = .pointer (some ⟨g, 0, none⟩) := by simpa using hp
  simp [results, h, hp', asAddr, hr.load h8]

/-- The query and the fragment told. -/
def tailS (u : U) (l : T) : U := { u with qry := if tHQ l || !(tA l).isEmpty then Pct.encode 2 (tQ l) else u.qry, hq := if tHQ l || !(tA l).isEmpty then tHQ l else u.hq, frg := Pct.encode 1 (tF l), hf := tHF l }

theorem tail_yes (u : U) (l : T) (h : (tHQ l || !(tA l).isEmpty) = true) : tailS u l = { u with qry := Pct.encode 2 (tQ l), hq := tHQ l, frg := Pct.encode 1 (tF l), hf := tHF l } := by unfold tailS; rw [h]; rfl

theorem tail_not (u : U) (l : T) (h : (tHQ l || !(tA l).isEmpty) = false) : tailS u l = { u with frg := Pct.encode 1 (tF l), hf := tHF l } := by unfold tailS; rw [h]; rfl

theorem step_other {w : World} {g k j : Nat} {u : U} {pv : Value} {t : ByteArray} (a : StepAt w g u pv t) (h : k ≠ g) (v : Value) : StepAt (w.setCell ⟨k, j, none⟩ v) g u pv t := (set_other w k j v h).trans a

set_option maxHeartbeats 16000000 in
theorem tail_step (u : U) (pv : Value) (t : ByteArray) (ht : t.size ≤ 30000) (h8 : u.h.p.length = 8) (hone : pv.oneCell' = true) (m : Int) (w : World) (hm : Six.At m w) :
    Calls Tryz.prog 67 #[.agg (cS u pv t)] w fun e w' => e = .returned (.agg (cS (tailS u t.data.toList) pv (tb (tA t.data.toList)))) ∧ Below w.heap.size w w' := by
  obtain ⟨T, hT⟩ : ∃ x, tb (tA t.data.toList) = x := ⟨_, rfl⟩
  obtain ⟨Q, hQ⟩ : ∃ x, tb (tQ t.data.toList) = x := ⟨_, rfl⟩
  obtain ⟨F, hF⟩ : ∃ x, tb (tF t.data.toList) = x := ⟨_, rfl⟩
  obtain ⟨hq, hhq⟩ : ∃ c, tHQ t.data.toList = c := ⟨_, rfl⟩
  obtain ⟨hf, hhf⟩ : ∃ c, tHF t.data.toList = c := ⟨_, rfl⟩
  obtain ⟨e, he⟩ : ∃ c, T.toList.isEmpty = c := ⟨_, rfl⟩
  have hQ1 : Q.size ≤ 30000 := by rw [size_tb hQ]; exact Nat.le_trans (Nat.le_trans (aft_len _ _) (bef_len _ _)) ht
  have hF1 : F.size ≤ 30000 := by rw [size_tb hF]; exact Nat.le_trans (aft_len _ _) ht
  have CT := Lib.hid (fun x hx => tail_any t (by omega) T Q F hq hf hT hQ hF hhq hhf m x hx)
  have CQ := Lib.hid (fun x => Pct.encode_any Q (by omega) 2 x)
  have CF := Lib.hid (fun x => Pct.encode_any F (by omega) 1 x)
  have hE2 : (⟨(Pct.encode 2 Q.data.toList).toArray⟩ : ByteArray) = tb (Pct.encode 2 Q.data.toList) := rfl
  have hE1 : (⟨(Pct.encode 1 F.data.toList).toArray⟩ : ByteArray) = tb (Pct.encode 1 F.data.toList) := rfl
  rw [hE2] at CQ
  rw [hE1] at CF
  have he' : (tA t.data.toList).isEmpty = e := by rw [← he, ← hT]; exact (empty_tb _).symm
  have HY := Lib.hid (tail_yes u t.data.toList)
  have HN := Lib.hid (tail_not u t.data.toList)
  rw [hhq, he', hhf, ← list_tb hQ, ← list_tb hF] at HY
  rw [hhq, he', hhf, ← list_tb hF] at HN
  generalize Pct.encode 2 Q.data.toList = QQ at CQ HY
  generalize Pct.encode 1 F.data.toList = FF at CF HY HN
  generalize tailS u t.data.toList = V at HY HN ⊢
  rw [hT]
  have HE := Lib.hid he
  clear hE1 hE2 hT hQ hF hhq hhf hQ1 hF1 he' he ht
  have HX8 := Lib.hid h8
  have HONE := Lib.hid hone
  have h1 := StepAt.new w u pv t
  have hb1 := (Below.refl w.heap.size w).alloc (Nat.le_refl _) (.cells (cS u pv t) 83)
  have hs1 : (w.alloc (.cells (cS u pv t) 83)).heap.size = w.heap.size + 1 := Array.size_push _
  have h2 := StepAt.new (w.alloc (.cells (cS u pv t) 83)) none1 (.slice none 0 0) ⟨#[]⟩
  rw [hs1] at h2
  have hB0 : Below w.heap.size w ((w.alloc (.cells (cS u pv t) 83)).alloc (.cells #[.string ⟨#[]⟩, .string ⟨#[]⟩, .string ⟨#[]⟩, .int .i64 0, .string ⟨#[]⟩, .int .i64 0, .int .i64 0, .int .i64 0, .int .i64 0, .int .i64 0, .int .i64 0, .int .i64 0, .int .i64 0, .int .i64 0, .int .i64 0, .slice none 0 0, .string ⟨#[]⟩, .string ⟨#[]⟩, .string ⟨#[]⟩, .bool false, .bool false, .string ⟨#[]⟩] 83)) := hb1.alloc (by omega) (.cells #[.string ⟨#[]⟩, .string ⟨#[]⟩, .string ⟨#[]⟩, .int .i64 0, .string ⟨#[]⟩, .int .i64 0, .int .i64 0, .int .i64 0, .int .i64 0, .int .i64 0, .int .i64 0, .int .i64 0, .int .i64 0, .int .i64 0, .int .i64 0, .slice none 0 0, .string ⟨#[]⟩, .string ⟨#[]⟩, .string ⟨#[]⟩, .bool false, .bool false, .string ⟨#[]⟩] 83)
  have hU : StepAt ((w.alloc (.cells (cS u pv t) 83)).alloc (.cells #[.string ⟨#[]⟩, .string ⟨#[]⟩, .string ⟨#[]⟩, .int .i64 0, .string ⟨#[]⟩, .int .i64 0, .int .i64 0, .int .i64 0, .int .i64 0, .int .i64 0, .int .i64 0, .int .i64 0, .int .i64 0, .int .i64 0, .int .i64 0, .slice none 0 0, .string ⟨#[]⟩, .string ⟨#[]⟩, .string ⟨#[]⟩, .bool false, .bool false, .string ⟨#[]⟩] 83)) w.heap.size u pv t := h1.past (.cells #[.string ⟨#[]⟩, .string ⟨#[]⟩, .string ⟨#[]⟩, .int .i64 0, .string ⟨#[]⟩, .int .i64 0, .int .i64 0, .int .i64 0, .int .i64 0, .int .i64 0, .int .i64 0, .int .i64 0, .int .i64 0, .int .i64 0, .int .i64 0, .slice none 0 0, .string ⟨#[]⟩, .string ⟨#[]⟩, .string ⟨#[]⟩, .bool false, .bool false, .string ⟨#[]⟩] 83)
  have hZ : StepAt ((w.alloc (.cells (cS u pv t) 83)).alloc (.cells #[.string ⟨#[]⟩, .string ⟨#[]⟩, .string ⟨#[]⟩, .int .i64 0, .string ⟨#[]⟩, .int .i64 0, .int .i64 0, .int .i64 0, .int .i64 0, .int .i64 0, .int .i64 0, .int .i64 0, .int .i64 0, .int .i64 0, .int .i64 0, .slice none 0 0, .string ⟨#[]⟩, .string ⟨#[]⟩, .string ⟨#[]⟩, .bool false, .bool false, .string ⟨#[]⟩] 83)) (w.heap.size + 1) none1 (.slice none 0 0) ⟨#[]⟩ := h2
  have HB0 := Lib.hid hB0
  have HU := Lib.hid hU
  have HZ := Lib.hid hZ
  have HM := Lib.hid (hm.later hB0)
  have c21 := hU.cell 21
  rw [(cS_at u pv t h8).2.2.2.2.2] at c21
  clear h1 h2 hb1 hs1 hB0 hU hZ hm h8 hone
  go_enter Tryz.func67, Tryz.ntmps67
  go_wp2_with fail
  clear c21
  generalize ((w.alloc (.cells (cS u pv t) 83)).alloc (.cells #[.string ⟨#[]⟩, .string ⟨#[]⟩, .string ⟨#[]⟩, .int .i64 0, .string ⟨#[]⟩, .int .i64 0, .int .i64 0, .int .i64 0, .int .i64 0, .int .i64 0, .int .i64 0, .int .i64 0, .int .i64 0, .int .i64 0, .int .i64 0, .slice none 0 0, .string ⟨#[]⟩, .string ⟨#[]⟩, .string ⟨#[]⟩, .bool false, .bool false, .string ⟨#[]⟩] 83)) = W at HB0 HU HZ HM ⊢
  refine (CT.out _ HM.out).mono ?_
  rintro e0 u1 ⟨rfl, hB1⟩
  have HU1 := Lib.hid (HU.out.later hB1)
  have HZ1 := Lib.hid (HZ.out.later hB1)
  have HB1 := Lib.hid (Ascii.below2 HB0.out hB1)
  clear CT hB1 HU HZ HM HB0
  cases hq
  · cases e
    · have he := HE.out
      go_wp2_with fail
      clear he
      refine (CQ.out _).mono ?_
      rintro e0 u2 ⟨rfl, hB2⟩
      have HU2 := Lib.hid (HU1.out.later hB2)
      have HZ2 := Lib.hid (HZ1.out.later hB2)
      have HB2 := Lib.hid (Ascii.below2 HB1.out hB2)
      clear CQ hB2 HU1 HZ1 HB1
      have c17 := HU2.out.cell 17
      rw [(cS_at u pv t HX8.out).2.1] at c17
      have c19 := HU2.out.cell 19
      rw [(cS_at u pv t HX8.out).2.2.2.1] at c19
      have f17 := HU2.out.free 17
      have f19 := HU2.out.free 19
      go_wp2_with fail
      clear c17 c19 f17 f19
      have HU3 := Lib.hid (step_set (step_set HU2.out 17 (.string (tb QQ)) (set_qry u pv t HX8.out QQ)) 19 (.bool false) (set_hq _ pv t (by exact HX8.out) false))
      have HZ3 := Lib.hid (step_other (step_other HZ2.out (Nat.ne_of_lt (Nat.lt_succ_self w.heap.size)) (j := 17) (.string (tb QQ))) (Nat.ne_of_lt (Nat.lt_succ_self w.heap.size)) (j := 19) (.bool false))
      have HB3 := Lib.hid (below_set (below_set HB2.out (Nat.le_refl _) 17 (.string (tb QQ))) (Nat.le_refl _) 19 (.bool false))
      generalize (u2.setCell ⟨w.heap.size, 17, none⟩ (.string (tb QQ))).setCell ⟨w.heap.size, 19, none⟩ (.bool false) = u3 at HU3 HZ3 HB3 ⊢
      clear HU2 HZ2 HB2
      refine (CF.out _).mono ?_
      rintro e0 u4 ⟨rfl, hB4⟩
      have HU4 := Lib.hid (HU3.out.later hB4)
      have HZ4 := Lib.hid (HZ3.out.later hB4)
      have HB4 := Lib.hid (Ascii.below2 HB3.out hB4)
      clear CF hB4 HU3 HZ3 HB3
      have c18 := HU4.out.cell 18
      rw [(cS_at { u with qry := QQ, hq := false } pv t (by exact HX8.out)).2.2.1] at c18
      have c20 := HU4.out.cell 20
      rw [(cS_at { u with qry := QQ, hq := false } pv t (by exact HX8.out)).2.2.2.2.1] at c20
      have c21 := HU4.out.cell 21
      rw [(cS_at { u with qry := QQ, hq := false } pv t (by exact HX8.out)).2.2.2.2.2] at c21
      have f18 := HU4.out.free 18
      have f20 := HU4.out.free 20
      have f21 := HU4.out.free 21
      have hV : V = { ({ u with qry := QQ, hq := false } : U) with frg := FF, hf := hf } := HY.out rfl
      have HV8 : V.h.p.length = 8 := by rw [hV]; exact HX8.out
      have HU7 : StepAt (((u4.setCell ⟨w.heap.size, 18, none⟩ (.string (tb FF))).setCell ⟨w.heap.size, 20, none⟩ (.bool hf)).setCell ⟨w.heap.size, 21, none⟩ (.string T)) w.heap.size V pv T := by
        rw [hV]
        exact step_set (step_set (step_set HU4.out 18 (.string (tb FF)) (set_frg _ pv t (by exact HX8.out) FF)) 20 (.bool hf) (set_hf _ pv t (by exact HX8.out) hf)) 21 (.string T) (set_txt _ pv t (by exact HX8.out) T)
      have HZ7 := step_other (step_other (step_other HZ4.out (Nat.ne_of_lt (Nat.lt_succ_self w.heap.size)) (j := 18) (.string (tb FF))) (Nat.ne_of_lt (Nat.lt_succ_self w.heap.size)) (j := 20) (.bool hf)) (Nat.ne_of_lt (Nat.lt_succ_self w.heap.size)) (j := 21) (.string T)
      have HB7 := Lib.hid (below_set (below_set (below_set HB4.out (Nat.le_refl _) 18 (.string (tb FF))) (Nat.le_refl _) 20 (.bool hf)) (Nat.le_refl _) 21 (.string T))
      have hone := HONE.out
      go_wp2_with (first
        | ((with_reducible refine wp_load83 (o := ⟨some 40, .load 83 (.tmp 1), _, _, _, _⟩) ?_ (.tmp 1) ?_ w.heap.size ?_ V pv T HV8 HU7 ?_); (· rfl); (· rfl); (· rfl); simp only [Act.put, List.setIfInBounds_toArray, List.set_cons_zero, List.set_cons_succ])
        | ((with_reducible refine wp_store83 (o := ⟨none, .store 83 (.tmp 2) (.tmp 40), _, _, _, _⟩) ?_ (.tmp 2) (.tmp 40) ?_ (w.heap.size + 1) ?_ V pv T ?_ HV8 hone none1 (.slice none 0 0) ⟨#[]⟩ rfl HZ7 ?_); (· rfl); (· rfl); (· rfl); (· rfl); simp only [Act.put, List.setIfInBounds_toArray, List.set_cons_zero, List.set_cons_succ]))
      have hfin := HZ7.row V pv T
      exact bodyPost_ret (ret_step rfl (w.heap.size + 1) V pv T HV8 rfl hfin) rfl ⟨rfl, below_row HB7.out (Nat.le_succ w.heap.size) _⟩
    · have he := HE.out
      go_wp2_with fail
      clear he
      refine (CF.out _).mono ?_
      rintro e0 u4 ⟨rfl, hB4⟩
      have HU4 := Lib.hid (HU1.out.later hB4)
      have HZ4 := Lib.hid (HZ1.out.later hB4)
      have HB4 := Lib.hid (Ascii.below2 HB1.out hB4)
      clear CF hB4 HU1 HZ1 HB1
      have c18 := HU4.out.cell 18
      rw [(cS_at u pv t (by exact HX8.out)).2.2.1] at c18
      have c20 := HU4.out.cell 20
      rw [(cS_at u pv t (by exact HX8.out)).2.2.2.2.1] at c20
      have c21 := HU4.out.cell 21
      rw [(cS_at u pv t (by exact HX8.out)).2.2.2.2.2] at c21
      have f18 := HU4.out.free 18
      have f20 := HU4.out.free 20
      have f21 := HU4.out.free 21
      have hV : V = { (u : U) with frg := FF, hf := hf } := HN.out rfl
      have HV8 : V.h.p.length = 8 := by rw [hV]; exact HX8.out
      have HU7 : StepAt (((u4.setCell ⟨w.heap.size, 18, none⟩ (.string (tb FF))).setCell ⟨w.heap.size, 20, none⟩ (.bool hf)).setCell ⟨w.heap.size, 21, none⟩ (.string T)) w.heap.size V pv T := by
        rw [hV]
        exact step_set (step_set (step_set HU4.out 18 (.string (tb FF)) (set_frg _ pv t (by exact HX8.out) FF)) 20 (.bool hf) (set_hf _ pv t (by exact HX8.out) hf)) 21 (.string T) (set_txt _ pv t (by exact HX8.out) T)
      have HZ7 := step_other (step_other (step_other HZ4.out (Nat.ne_of_lt (Nat.lt_succ_self w.heap.size)) (j := 18) (.string (tb FF))) (Nat.ne_of_lt (Nat.lt_succ_self w.heap.size)) (j := 20) (.bool hf)) (Nat.ne_of_lt (Nat.lt_succ_self w.heap.size)) (j := 21) (.string T)
      have HB7 := Lib.hid (below_set (below_set (below_set HB4.out (Nat.le_refl _) 18 (.string (tb FF))) (Nat.le_refl _) 20 (.bool hf)) (Nat.le_refl _) 21 (.string T))
      have hone := HONE.out
      go_wp2_with (first
        | ((with_reducible refine wp_load83 (o := ⟨some 40, .load 83 (.tmp 1), _, _, _, _⟩) ?_ (.tmp 1) ?_ w.heap.size ?_ V pv T HV8 HU7 ?_); (· rfl); (· rfl); (· rfl); simp only [Act.put, List.setIfInBounds_toArray, List.set_cons_zero, List.set_cons_succ])
        | ((with_reducible refine wp_store83 (o := ⟨none, .store 83 (.tmp 2) (.tmp 40), _, _, _, _⟩) ?_ (.tmp 2) (.tmp 40) ?_ (w.heap.size + 1) ?_ V pv T ?_ HV8 hone none1 (.slice none 0 0) ⟨#[]⟩ rfl HZ7 ?_); (· rfl); (· rfl); (· rfl); (· rfl); simp only [Act.put, List.setIfInBounds_toArray, List.set_cons_zero, List.set_cons_succ]))
      have hfin := HZ7.row V pv T
      exact bodyPost_ret (ret_step rfl (w.heap.size + 1) V pv T HV8 rfl hfin) rfl ⟨rfl, below_row HB7.out (Nat.le_succ w.heap.size) _⟩
  · have he := HE.out
    go_wp2_with fail
    clear he
    refine (CQ.out _).mono ?_
    rintro e0 u2 ⟨rfl, hB2⟩
    have HU2 := Lib.hid (HU1.out.later hB2)
    have HZ2 := Lib.hid (HZ1.out.later hB2)
    have HB2 := Lib.hid (Ascii.below2 HB1.out hB2)
    clear CQ hB2 HU1 HZ1 HB1
    have c17 := HU2.out.cell 17
    rw [(cS_at u pv t HX8.out).2.1] at c17
    have c19 := HU2.out.cell 19
    rw [(cS_at u pv t HX8.out).2.2.2.1] at c19
    have f17 := HU2.out.free 17
    have f19 := HU2.out.free 19
    go_wp2_with fail
    clear c17 c19 f17 f19
    have HU3 := Lib.hid (step_set (step_set HU2.out 17 (.string (tb QQ)) (set_qry u pv t HX8.out QQ)) 19 (.bool true) (set_hq _ pv t (by exact HX8.out) true))
    have HZ3 := Lib.hid (step_other (step_other HZ2.out (Nat.ne_of_lt (Nat.lt_succ_self w.heap.size)) (j := 17) (.string (tb QQ))) (Nat.ne_of_lt (Nat.lt_succ_self w.heap.size)) (j := 19) (.bool true))
    have HB3 := Lib.hid (below_set (below_set HB2.out (Nat.le_refl _) 17 (.string (tb QQ))) (Nat.le_refl _) 19 (.bool true))
    generalize (u2.setCell ⟨w.heap.size, 17, none⟩ (.string (tb QQ))).setCell ⟨w.heap.size, 19, none⟩ (.bool true) = u3 at HU3 HZ3 HB3 ⊢
    clear HU2 HZ2 HB2
    refine (CF.out _).mono ?_
    rintro e0 u4 ⟨rfl, hB4⟩
    have HU4 := Lib.hid (HU3.out.later hB4)
    have HZ4 := Lib.hid (HZ3.out.later hB4)
    have HB4 := Lib.hid (Ascii.below2 HB3.out hB4)
    clear CF hB4 HU3 HZ3 HB3
    have c18 := HU4.out.cell 18
    rw [(cS_at { u with qry := QQ, hq := true } pv t (by exact HX8.out)).2.2.1] at c18
    have c20 := HU4.out.cell 20
    rw [(cS_at { u with qry := QQ, hq := true } pv t (by exact HX8.out)).2.2.2.2.1] at c20
    have c21 := HU4.out.cell 21
    rw [(cS_at { u with qry := QQ, hq := true } pv t (by exact HX8.out)).2.2.2.2.2] at c21
    have f18 := HU4.out.free 18
    have f20 := HU4.out.free 20
    have f21 := HU4.out.free 21
    have hV : V = { ({ u with qry := QQ, hq := true } : U) with frg := FF, hf := hf } := HY.out rfl
    have HV8 : V.h.p.length = 8 := by rw [hV]; exact HX8.out
    have HU7 : StepAt (((u4.setCell ⟨w.heap.size, 18, none⟩ (.string (tb FF))).setCell ⟨w.heap.size, 20, none⟩ (.bool hf)).setCell ⟨w.heap.size, 21, none⟩ (.string T)) w.heap.size V pv T := by
      rw [hV]
      exact step_set (step_set (step_set HU4.out 18 (.string (tb FF)) (set_frg _ pv t (by exact HX8.out) FF)) 20 (.bool hf) (set_hf _ pv t (by exact HX8.out) hf)) 21 (.string T) (set_txt _ pv t (by exact HX8.out) T)
    have HZ7 := step_other (step_other (step_other HZ4.out (Nat.ne_of_lt (Nat.lt_succ_self w.heap.size)) (j := 18) (.string (tb FF))) (Nat.ne_of_lt (Nat.lt_succ_self w.heap.size)) (j := 20) (.bool hf)) (Nat.ne_of_lt (Nat.lt_succ_self w.heap.size)) (j := 21) (.string T)
    have HB7 := Lib.hid (below_set (below_set (below_set HB4.out (Nat.le_refl _) 18 (.string (tb FF))) (Nat.le_refl _) 20 (.bool hf)) (Nat.le_refl _) 21 (.string T))
    have hone := HONE.out
    go_wp2_with (first
      | ((with_reducible refine wp_load83 (o := ⟨some 40, .load 83 (.tmp 1), _, _, _, _⟩) ?_ (.tmp 1) ?_ w.heap.size ?_ V pv T HV8 HU7 ?_); (· rfl); (· rfl); (· rfl); simp only [Act.put, List.setIfInBounds_toArray, List.set_cons_zero, List.set_cons_succ])
      | ((with_reducible refine wp_store83 (o := ⟨none, .store 83 (.tmp 2) (.tmp 40), _, _, _, _⟩) ?_ (.tmp 2) (.tmp 40) ?_ (w.heap.size + 1) ?_ V pv T ?_ HV8 hone none1 (.slice none 0 0) ⟨#[]⟩ rfl HZ7 ?_); (· rfl); (· rfl); (· rfl); (· rfl); simp only [Act.put, List.setIfInBounds_toArray, List.set_cons_zero, List.set_cons_succ]))
    have hfin := HZ7.row V pv T
    exact bodyPost_ret (ret_step rfl (w.heap.size + 1) V pv T HV8 rfl hfin) rfl ⟨rfl, below_row HB7.out (Nat.le_succ w.heap.size) _⟩

end Go.Proofs.YtkhjhiofgoampaaGreatDoor.Join
