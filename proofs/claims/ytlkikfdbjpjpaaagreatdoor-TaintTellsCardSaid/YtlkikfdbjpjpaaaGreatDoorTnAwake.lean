/-
  The chapter's example, run.
-/
import Derived.Test.YtlkikfdbjpjpaaaGreatDoorTnEx
import Derived.Test.YtlkikfdbjpjpaaaGreatDoorRqNew
import Derived.Test.YtlkikfdbjpjpaaaGreatDoorTnAny
namespace Go.Proofs.YtlkikfdbjpjpaaaGreatDoor.Taint
set_option linter.unusedSimpArgs false
set_option linter.unusedVariables false
set_option maxRecDepth 100000


open Go.RowKit Go.Shelf

open Url Show Origin Req

open Host (H none0)

open Path (Strs)

set_option maxRecDepth 100000

theorem built_uN : Tryz.prog.built 27 [(1, .string ⟨#[117]⟩)] = some (cU uN (.slice none 0 0)) := by kernel_rfl

theorem wp_build_uN {ops : Array Oper} {rest : List Oper} {o : Oper} {a : Act} {w : World} {Q : Exit → Act → World → Prop} (hgd : Region.wanted o (yielded ops a.tmps) = true) (x : Operand) (ho : o.op = .build 27 #[(1, x)])
    (hx : a.eval x = .string ⟨#[117]⟩) (hk : wpList Tryz.prog ops Q rest (a.put o.dst (.agg (cU uN (.slice none 0 0)))) w) : wpList Tryz.prog ops Q (o :: rest) a w :=
  Six.wpList_taken hgd fun _ hK => by
    unfold Oper.wp execOp
    have hb : Tryz.prog.built 27 (#[(1, a.eval x)] : Array (Nat × Value)).toList = some (cU uN (.slice none 0 0)) := by rw [hx]; exact built_uN
    simp only [ho, Sem.run_bind, List.map_toArray, List.map_cons, List.map_nil, run_build w 27 _ _ hb, Result.andThen_ok]
    exact hK _ _ hk

set_option maxHeartbeats 16000000 in
theorem awake_calls (m : Int) (w : World) (hm : Six.At m w) : Calls Tryz.prog 9 #[] w fun e w' => e = .returned (.bool true) ∧ Below w.heap.size w w' := by
  have LA : eA.h.p.length = 8 := rfl
  have LB : eB.h.p.length = 8 := rfl
  have LC : eC.h.p.length = 8 := rfl
  have HM0 := Lib.hid hm
  have HB0 := Lib.hid (Below.refl w.heap.size w)
  clear hm
  go_enter Tryz.func9, Tryz.ntmps9
  go_wp2_with fail
  refine (parse_at sA (by decide) eA true sA_par sA_ok m w HM0.out).mono ?_
  rintro e u1 ⟨pv, rfl, hst, hn, hB⟩
  have hone := strs_one hst
  have hnew := new_url u1
  have hB2 := below_trans hB (below_url u1 eA pv)
  have HB1 := Lib.hid (below_trans HB0.out hB2)
  have HM1 := Lib.hid (HM0.out.later hB2)
  have HS1 := Lib.hid (hst.later (below_url u1 eA pv))
  have HU1 := Lib.hid (hnew.row eA pv)
  clear HB0 HM0 hst hn hB hB2
  go_wp2_with ((with_reducible refine wp_store27 (o := ⟨none, .store 27 (.tmp 1) (.tmp 14), _, _, _, _⟩) ?_ (.tmp 1) (.tmp 14) ?_ u1.heap.size ?_ eA pv ?_ LA hone none1 (.slice none 0 0) rfl hnew ?_); (· rfl); (· rfl); (· rfl); (· rfl); simp only [Act.put, List.setIfInBounds_toArray, List.set_cons_zero, List.set_cons_succ])
  generalize (u1.alloc (.cells #[.string ⟨#[]⟩, .string ⟨#[]⟩, .string ⟨#[]⟩, .int .i64 0, .string ⟨#[]⟩, .int .i64 0, .int .i64 0, .int .i64 0, .int .i64 0, .int .i64 0, .int .i64 0, .int .i64 0, .int .i64 0, .int .i64 0, .int .i64 0, .slice none 0 0, .string ⟨#[]⟩, .string ⟨#[]⟩, .string ⟨#[]⟩, .bool false, .bool false] 27)).setRow u1.heap.size (cU eA pv) = V1 at HB1 HM1 HS1 HU1 ⊢
  generalize u1.heap.size = g1 at HU1 ⊢
  clear hnew hone
  refine (parse_at sB (by decide) eB true sB_par sB_ok m _ HM1.out).mono ?_
  rintro e u2 ⟨qv, rfl, hst, hn, hB⟩
  have HONE := Lib.hid (strs_one hst)
  have hone := strs_one hst
  have hnew := new_url u2
  have hB2 := below_trans hB (below_url u2 eB qv)
  have HB2 := Lib.hid (below_trans HB1.out hB2)
  have HM2 := Lib.hid (HM1.out.later hB2)
  have HU2 := Lib.hid (HU1.out.later hB2)
  have HS2 := Lib.hid (HS1.out.later hB2)
  have HT2 := Lib.hid (hst.later (below_url u2 eB qv))
  have HV2 := Lib.hid (hnew.row eB qv)
  clear HB1 HM1 HU1 HS1 hst hn hB hB2
  go_wp2_with ((with_reducible refine wp_store27 (o := ⟨none, .store 27 (.tmp 3) (.tmp 18), _, _, _, _⟩) ?_ (.tmp 3) (.tmp 18) ?_ u2.heap.size ?_ eB qv ?_ LB hone none1 (.slice none 0 0) rfl hnew ?_); (· rfl); (· rfl); (· rfl); (· rfl); simp only [Act.put, List.setIfInBounds_toArray, List.set_cons_zero, List.set_cons_succ])
  generalize (u2.alloc (.cells #[.string ⟨#[]⟩, .string ⟨#[]⟩, .string ⟨#[]⟩, .int .i64 0, .string ⟨#[]⟩, .int .i64 0, .int .i64 0, .int .i64 0, .int .i64 0, .int .i64 0, .int .i64 0, .int .i64 0, .int .i64 0, .int .i64 0, .int .i64 0, .slice none 0 0, .string ⟨#[]⟩, .string ⟨#[]⟩, .string ⟨#[]⟩, .bool false, .bool false] 27)).setRow u2.heap.size (cU eB qv) = V2 at HB2 HM2 HU2 HS2 HT2 HV2 ⊢
  generalize u2.heap.size = g2 at HV2 ⊢
  clear hnew hone
  refine (parse_at sC (by decide) eC true sC_par sC_ok m _ HM2.out).mono ?_
  rintro e u3 ⟨rv, rfl, hst, hn, hB⟩
  have hone := strs_one hst
  have hnew := new_url u3
  have hB2 := below_trans hB (below_url u3 eC rv)
  have HB3 := Lib.hid (below_trans HB2.out hB2)
  have HM3 := Lib.hid (HM2.out.later hB2)
  have HU3 := Lib.hid (HU2.out.later hB2)
  have HS3 := Lib.hid (HS2.out.later hB2)
  have HV3 := Lib.hid (HV2.out.later hB2)
  have HT3 := Lib.hid (HT2.out.later hB2)
  have HR3 := Lib.hid (hst.later (below_url u3 eC rv))
  have HX3 := Lib.hid (hnew.row eC rv)
  clear HB2 HM2 HU2 HS2 HV2 HT2 hst hn hB hB2
  go_upto_region 4 with ((with_reducible refine wp_store27 (o := ⟨none, .store 27 (.tmp 5) (.tmp 22), _, _, _, _⟩) ?_ (.tmp 5) (.tmp 22) ?_ u3.heap.size ?_ eC rv ?_ LC hone none1 (.slice none 0 0) rfl hnew ?_); (· rfl); (· rfl); (· rfl); (· rfl); simp only [Act.put, List.setIfInBounds_toArray, List.set_cons_zero, List.set_cons_succ])
  generalize (u3.alloc (.cells #[.string ⟨#[]⟩, .string ⟨#[]⟩, .string ⟨#[]⟩, .int .i64 0, .string ⟨#[]⟩, .int .i64 0, .int .i64 0, .int .i64 0, .int .i64 0, .int .i64 0, .int .i64 0, .int .i64 0, .int .i64 0, .int .i64 0, .int .i64 0, .slice none 0 0, .string ⟨#[]⟩, .string ⟨#[]⟩, .string ⟨#[]⟩, .bool false, .bool false] 27)).setRow u3.heap.size (cU eC rv) = V3 at HB3 HM3 HU3 HS3 HV3 HT3 HR3 HX3 ⊢
  generalize u3.heap.size = g3 at HX3 ⊢
  clear hnew hone
  go_cut [7] from 24 to 27 (fun va wx => ∃ g : Nat, va = .pointer (some ⟨g, 0, none⟩) ∧ Hid (Req.RAt wx g q0 qv (.slice none 0 0)) ∧ Hid (V3.heap.size ≤ g) ∧ Hid (Below V3.heap.size V3 wx))
  case first =>
    obtain ⟨qz, hz0⟩ : ∃ q, q0 = q := ⟨_, rfl⟩
    have LZ : Req.R8 qz := by rw [← hz0]; exact ⟨rfl, rfl⟩
    obtain ⟨vz, hvz⟩ : ∃ v, Value.agg (Req.cR qz qv (.slice none 0 0)) = v := ⟨_, rfl⟩
    have hc : Below V3.heap.size V3 V3.drew := (Below.refl _ _).drew
    refine wp_region_held_drew (S := fun v => UrlAt v g1 eA pv ∧ UrlAt v g2 eB qv) (by kernel_rfl) ⟨HU3.out.later hc, HV3.out.later hc⟩ (fun hS => ?_)
    generalize V3.drew = y0 at hc hS ⊢
    refine wpAnyH_take (i := 0) (oi := ⟨some 24, .load 27 (.tmp 3), _, _, _, _⟩) (v := .agg (cU eB qv)) rfl (by kernel_rfl) (by kernel_rfl) (by kernel_rfl) (fun _ _ _ h => h) (Or.inl ⟨by rfl, ?_⟩) (by assumption) ?_
    · (exact fun v hv => run_load_of 27 (.tmp 3) ⟨g2, 0, none⟩ rfl (.agg (cU eB qv)) (hv.2.load LB))
    simp only [Act.put, List.setIfInBounds_toArray, List.set_cons_zero, List.set_cons_succ]
    refine wpAnyH_take (i := 1) (oi := ⟨some 25, .load 27 (.tmp 1), _, _, _, _⟩) (v := .agg (cU eA pv)) rfl (by kernel_rfl) (by kernel_rfl) (by kernel_rfl) (fun _ _ _ h => h) (Or.inl ⟨by rfl, ?_⟩) (by assumption) ?_
    · (exact fun v hv => run_load_of 27 (.tmp 1) ⟨g1, 0, none⟩ rfl (.agg (cU eA pv)) (hv.1.load LA))
    simp only [Act.put, List.setIfInBounds_toArray, List.set_cons_zero, List.set_cons_succ]
    refine wpAnyH_ready (rs := [2, 4]) (by kernel_rfl) (by simp) ?_
    refine AllReadyH.cons (o := ⟨some 26, .call ⟨.value (.func 23), #[.tmp 25], _⟩, _, _, _, _⟩) rfl (fun K hK => ?_) (AllReadyH.cons (o := ⟨some 7, .alloc 32, _, _, _, _⟩) rfl (fun K hK => ?_) AllReadyH.nil)
    · go_simp
      go_at_call 23
      refine (of_any eA pv eA_fit oA eA_of m _ (HM3.out.later hc) (HS3.out.later hc)).mono ?_
      rintro e y1 ⟨rfl, hB⟩
      have hc := below_trans hc hB
      refine hK.out _ _ ⟨HU3.out.later hc, HV3.out.later hc⟩ (fun hS => ?_)
      clear hB hK
      refine wpAnyH_take (i := 3) (oi := ⟨some 27, .build 32 #[(0, .tmp 24), (1, .const (.string ⟨#[71, 69, 84]⟩)), (4, .tmp 26), (5, .const (.int .i64 1))], _, _, _, _⟩) (v := vz) rfl (by kernel_rfl) (by kernel_rfl) (by kernel_rfl) (fun _ _ _ h => h) (Or.inl ⟨by rfl, ?_⟩) (by assumption) ?_
      · (intro v hv; rw [← hvz, ← hz0]; kernel_rfl)
      simp only [Act.put, List.setIfInBounds_toArray, List.set_cons_zero, List.set_cons_succ]
      refine wpAnyH_ready (rs := [4]) (by kernel_rfl) (by simp) ?_
      refine AllReadyH.cons (o := ⟨some 7, .alloc 32, _, _, _, _⟩) rfl (fun K hK => ?_) AllReadyH.nil
      go_simp
      have hsz : V3.heap.size ≤ y1.heap.size := hc.size
      have hnew := Req.new_req y1
      have hc := below_trans hc ((Below.refl y1.heap.size y1).alloc (Nat.le_refl _) (.cells #[.string ⟨#[]⟩, .string ⟨#[]⟩, .string ⟨#[]⟩, .int .i64 0, .string ⟨#[]⟩, .int .i64 0, .int .i64 0, .int .i64 0, .int .i64 0, .int .i64 0, .int .i64 0, .int .i64 0, .int .i64 0, .int .i64 0, .int .i64 0, .slice none 0 0, .string ⟨#[]⟩, .string ⟨#[]⟩, .string ⟨#[]⟩, .bool false, .bool false, .string ⟨#[]⟩, .slice none 0 0, .bool false, .bool false, .string ⟨#[]⟩, .int .i64 0, .string ⟨#[]⟩, .int .i64 0, .int .i64 0, .int .i64 0, .int .i64 0, .int .i64 0, .int .i64 0, .int .i64 0, .int .i64 0, .int .i64 0, .int .i64 0, .int .i64 0, .int .i64 0, .int .i64 0, .string ⟨#[]⟩, .bool false, .bool false, .int .i64 0] 32))
      refine hK.out _ _ ⟨HU3.out.later hc, HV3.out.later hc⟩ (fun hS => ?_)
      clear hK
      generalize y1.alloc (.cells #[.string ⟨#[]⟩, .string ⟨#[]⟩, .string ⟨#[]⟩, .int .i64 0, .string ⟨#[]⟩, .int .i64 0, .int .i64 0, .int .i64 0, .int .i64 0, .int .i64 0, .int .i64 0, .int .i64 0, .int .i64 0, .int .i64 0, .int .i64 0, .slice none 0 0, .string ⟨#[]⟩, .string ⟨#[]⟩, .string ⟨#[]⟩, .bool false, .bool false, .string ⟨#[]⟩, .slice none 0 0, .bool false, .bool false, .string ⟨#[]⟩, .int .i64 0, .string ⟨#[]⟩, .int .i64 0, .int .i64 0, .int .i64 0, .int .i64 0, .int .i64 0, .int .i64 0, .int .i64 0, .int .i64 0, .int .i64 0, .int .i64 0, .int .i64 0, .int .i64 0, .int .i64 0, .string ⟨#[]⟩, .bool false, .bool false, .int .i64 0] 32) = y2 at hc hnew hS ⊢
      generalize y1.heap.size = gn at hsz hnew ⊢
      try simp only [Act.put, List.setIfInBounds_toArray, List.set_cons_zero, List.set_cons_succ]
      refine wpAnyH_ready (rs := [5]) (by kernel_rfl) (by simp) ?_
      refine AllReadyH.cons (o := ⟨none, .store 32 (.tmp 7) (.tmp 27), _, _, _, _⟩) rfl (fun K hK => ?_) AllReadyH.nil
      rw [if_pos (by rfl)]
      refine Req.put_req (.tmp 7) (.tmp 27) rfl gn rfl qz qv (.slice none 0 0) hvz.symm LZ HONE.out rfl Req.zeroR (.slice none 0 0) (.slice none 0 0) ⟨rfl, rfl⟩ hnew ?_
      have hr := hnew.row qz qv (.slice none 0 0)
      have hc := below_row hc hsz (Req.cR qz qv (.slice none 0 0))
      refine hK.out _ _ ⟨HU3.out.later hc, HV3.out.later hc⟩ (fun hS => ?_)
      clear hK
      refine wpAnyH_done (by kernel_rfl) ?_ _
      clear hS
      go_wp2_with fail
      go_meet
      exact ⟨_, rfl, Lib.hid (by rw [hz0]; exact hr), Lib.hid hsz, Lib.hid hc⟩
    · go_simp
      have hsz : V3.heap.size ≤ y0.heap.size := hc.size
      have hnew := Req.new_req y0
      have hc := below_trans hc ((Below.refl y0.heap.size y0).alloc (Nat.le_refl _) (.cells #[.string ⟨#[]⟩, .string ⟨#[]⟩, .string ⟨#[]⟩, .int .i64 0, .string ⟨#[]⟩, .int .i64 0, .int .i64 0, .int .i64 0, .int .i64 0, .int .i64 0, .int .i64 0, .int .i64 0, .int .i64 0, .int .i64 0, .int .i64 0, .slice none 0 0, .string ⟨#[]⟩, .string ⟨#[]⟩, .string ⟨#[]⟩, .bool false, .bool false, .string ⟨#[]⟩, .slice none 0 0, .bool false, .bool false, .string ⟨#[]⟩, .int .i64 0, .string ⟨#[]⟩, .int .i64 0, .int .i64 0, .int .i64 0, .int .i64 0, .int .i64 0, .int .i64 0, .int .i64 0, .int .i64 0, .int .i64 0, .int .i64 0, .int .i64 0, .int .i64 0, .int .i64 0, .string ⟨#[]⟩, .bool false, .bool false, .int .i64 0] 32))
      refine hK.out _ _ ⟨HU3.out.later hc, HV3.out.later hc⟩ (fun hS => ?_)
      clear hK
      generalize y0.alloc (.cells #[.string ⟨#[]⟩, .string ⟨#[]⟩, .string ⟨#[]⟩, .int .i64 0, .string ⟨#[]⟩, .int .i64 0, .int .i64 0, .int .i64 0, .int .i64 0, .int .i64 0, .int .i64 0, .int .i64 0, .int .i64 0, .int .i64 0, .int .i64 0, .slice none 0 0, .string ⟨#[]⟩, .string ⟨#[]⟩, .string ⟨#[]⟩, .bool false, .bool false, .string ⟨#[]⟩, .slice none 0 0, .bool false, .bool false, .string ⟨#[]⟩, .int .i64 0, .string ⟨#[]⟩, .int .i64 0, .int .i64 0, .int .i64 0, .int .i64 0, .int .i64 0, .int .i64 0, .int .i64 0, .int .i64 0, .int .i64 0, .int .i64 0, .int .i64 0, .int .i64 0, .int .i64 0, .string ⟨#[]⟩, .bool false, .bool false, .int .i64 0] 32) = y1 at hc hnew hS ⊢
      generalize y0.heap.size = gn at hsz hnew ⊢
      refine wpAnyH_ready (rs := [2]) (by kernel_rfl) (by simp) ?_
      refine AllReadyH.cons (o := ⟨some 26, .call ⟨.value (.func 23), #[.tmp 25], _⟩, _, _, _, _⟩) rfl (fun K hK => ?_) AllReadyH.nil
      go_simp
      go_at_call 23
      refine (of_any eA pv eA_fit oA eA_of m _ (HM3.out.later hc) (HS3.out.later hc)).mono ?_
      rintro e y2 ⟨rfl, hB⟩
      have hc := below_trans hc hB
      have hnew := hnew.later hB
      refine hK.out _ _ ⟨HU3.out.later hc, HV3.out.later hc⟩ (fun hS => ?_)
      clear hB hK
      refine wpAnyH_take (i := 3) (oi := ⟨some 27, .build 32 #[(0, .tmp 24), (1, .const (.string ⟨#[71, 69, 84]⟩)), (4, .tmp 26), (5, .const (.int .i64 1))], _, _, _, _⟩) (v := vz) rfl (by kernel_rfl) (by kernel_rfl) (by kernel_rfl) (fun _ _ _ h => h) (Or.inl ⟨by rfl, ?_⟩) (by assumption) ?_
      · (intro v hv; rw [← hvz, ← hz0]; kernel_rfl)
      simp only [Act.put, List.setIfInBounds_toArray, List.set_cons_zero, List.set_cons_succ]
      refine wpAnyH_ready (rs := [5]) (by kernel_rfl) (by simp) ?_
      refine AllReadyH.cons (o := ⟨none, .store 32 (.tmp 7) (.tmp 27), _, _, _, _⟩) rfl (fun K hK => ?_) AllReadyH.nil
      rw [if_pos (by rfl)]
      refine Req.put_req (.tmp 7) (.tmp 27) rfl gn rfl qz qv (.slice none 0 0) hvz.symm LZ HONE.out rfl Req.zeroR (.slice none 0 0) (.slice none 0 0) ⟨rfl, rfl⟩ hnew ?_
      have hr := hnew.row qz qv (.slice none 0 0)
      have hc := below_row hc hsz (Req.cR qz qv (.slice none 0 0))
      refine hK.out _ _ ⟨HU3.out.later hc, HV3.out.later hc⟩ (fun hS => ?_)
      clear hK
      refine wpAnyH_done (by kernel_rfl) ?_ _
      clear hS
      go_wp2_with fail
      go_meet
      exact ⟨_, rfl, Lib.hid (by rw [hz0]; exact hr), Lib.hid hsz, Lib.hid hc⟩
  case rest =>
    obtain ⟨g4, rfl, HQ0, HG, HC0⟩ := hcut
    have hu := HQ0.out
    go_wp2_with ((with_reducible refine Req.wp_load32 (o := ⟨some 29, .load 32 (.tmp 7), _, _, _, _⟩) ?_ (.tmp 7) ?_ g4 ?_ q0 qv (.slice none 0 0) ⟨rfl, rfl⟩ hu ?_); (· rfl); (· rfl); (· rfl); simp only [Act.put, List.setIfInBounds_toArray, List.set_cons_zero, List.set_cons_succ])
    refine (sends_any q0 qv (.slice none 0 0) (q_fit q0 rfl rfl) rfl true q0_sends.1 ⟨#[104, 116, 116, 112, 115, 58, 47, 47, 97, 46, 111, 114, 103]⟩ (by rw [q0_sends.2]; rfl) m _ (HM3.out.later HC0.out) (HT3.out.later HC0.out)).mono ?_
    rintro e X1 ⟨rfl, hB⟩
    have HC1 := Lib.hid (HC0.out.trans (hB.mono HC0.out.size))
    have HQ1 := Lib.hid (HQ0.out.later hB)
    clear hB HC0 HQ0 hu
    have dd := HQ1.out.cell 42
    rw [(Req.cR_at q0 qv (.slice none 0 0) ⟨rfl, rfl⟩).2.2.2.2.2.2.2.1] at dd
    have ff := HQ1.out.free 42
    go_upto_region 7 with fail
    clear dd ff
    have HQ2 := Lib.hid (show Req.RAt (X1.setCell ⟨g4, 42, none⟩ (.bool true)) g4 q1 qv (.slice none 0 0) from HQ1.out.tnt ⟨rfl, rfl⟩ true)
    have HC2 := Lib.hid (below_set HC1.out HG.out 42 (.bool true))
    clear HQ1 HC1
    generalize X1.setCell ⟨g4, 42, none⟩ (.bool true) = Y2 at HQ2 HC2 ⊢
    have hu := HQ2.out
    go_wp2_with ((with_reducible refine Req.wp_load32 (o := ⟨some 35, .load 32 (.tmp 7), _, _, _, _⟩) ?_ (.tmp 7) ?_ g4 ?_ q1 qv (.slice none 0 0) ⟨rfl, rfl⟩ hu ?_); (· rfl); (· rfl); (· rfl); simp only [Act.put, List.setIfInBounds_toArray, List.set_cons_zero, List.set_cons_succ])
    refine (sends_any q1 qv (.slice none 0 0) (q_fit q1 rfl rfl) rfl true q1_sends.1 ⟨#[110, 117, 108, 108]⟩ (by rw [q1_sends.2]; rfl) m _ (HM3.out.later HC2.out) (HT3.out.later HC2.out)).mono ?_
    rintro e X2 ⟨rfl, hB⟩
    have HC3 := Lib.hid (HC2.out.trans (hB.mono HC2.out.size))
    have HQ3 := Lib.hid (HQ2.out.later hB)
    clear hB HC2 HQ2 hu
    have dd := HQ3.out.cell 38
    rw [(Req.cR_at q1 qv (.slice none 0 0) ⟨rfl, rfl⟩).2.2.2.1] at dd
    have ff := HQ3.out.free 38
    go_upto_region 9 with fail
    clear dd ff
    have HQ4 := Lib.hid (show Req.RAt (X2.setCell ⟨g4, 38, none⟩ (.int .i64 0)) g4 q2 qv (.slice none 0 0) from HQ3.out.mode ⟨rfl, rfl⟩ 0)
    have HC4 := Lib.hid (below_set HC3.out HG.out 38 (.int .i64 0))
    clear HQ3 HC3
    generalize X2.setCell ⟨g4, 38, none⟩ (.int .i64 0) = Y4 at HQ4 HC4 ⊢
    have hu := HQ4.out
    go_wp2_with ((with_reducible refine Req.wp_load32 (o := ⟨some 53, .load 32 (.tmp 7), _, _, _, _⟩) ?_ (.tmp 7) ?_ g4 ?_ q2 qv (.slice none 0 0) ⟨rfl, rfl⟩ hu ?_); (· rfl); (· rfl); (· rfl); simp only [Act.put, List.setIfInBounds_toArray, List.set_cons_zero, List.set_cons_succ])
    refine (quiet_any q2 qv (.slice none 0 0) (q_fit q2 rfl rfl) rfl true q2_quiet m _ (HM3.out.later HC4.out) (HT3.out.later HC4.out)).mono ?_
    rintro e X3 ⟨rfl, hB⟩
    have HC5 := Lib.hid (HC4.out.trans (hB.mono HC4.out.size))
    have HQ5 := Lib.hid (HQ4.out.later hB)
    clear hB HC4 HQ4 hu
    have hu := HQ5.out
    have hv := HV3.out.later HC5.out
    have hw := HX3.out.later HC5.out
    go_wp2_with (first | ((with_reducible refine Req.wp_load29r (o := ⟨some 58, .load 30 (.tmp 57), _, _, _, _⟩) ?_ (.tmp 57) ?_ g4 ?_ q2 qv (.slice none 0 0) ⟨rfl, rfl⟩ hu ?_); (· rfl); (· rfl); (· rfl); simp only [Act.put, List.setIfInBounds_toArray, List.set_cons_zero, List.set_cons_succ]) | ((with_reducible refine wp_load27 (o := ⟨some 59, .load 27 (.tmp 3), _, _, _, _⟩) ?_ (.tmp 3) ?_ g2 ?_ eB qv LB hv ?_); (· rfl); (· rfl); (· rfl); simp only [Act.put, List.setIfInBounds_toArray, List.set_cons_zero, List.set_cons_succ]) | ((with_reducible refine wp_load27 (o := ⟨some 60, .load 27 (.tmp 5), _, _, _, _⟩) ?_ (.tmp 5) ?_ g3 ?_ eC rv LC hw ?_); (· rfl); (· rfl); (· rfl); simp only [Act.put, List.setIfInBounds_toArray, List.set_cons_zero, List.set_cons_succ]))
    refine (taint_any false oA eB eC qv rv rfl (by decide) (by decide) eB_fit eC_fit true bc_taint m _ (HM3.out.later HC5.out) (HT3.out.later HC5.out) (HR3.out.later HC5.out)).mono ?_
    rintro e X4 ⟨rfl, hB⟩
    have HC6 := Lib.hid (HC5.out.trans (hB.mono HC5.out.size))
    have HQ6 := Lib.hid (HQ5.out.later hB)
    clear hB HC5 HQ5 hu hv hw
    have hu := HQ6.out
    have hv := HU3.out.later HC6.out
    have hw := HX3.out.later HC6.out
    go_wp2_with (first | ((with_reducible refine Req.wp_load29r (o := ⟨some 65, .load 30 (.tmp 64), _, _, _, _⟩) ?_ (.tmp 64) ?_ g4 ?_ q2 qv (.slice none 0 0) ⟨rfl, rfl⟩ hu ?_); (· rfl); (· rfl); (· rfl); simp only [Act.put, List.setIfInBounds_toArray, List.set_cons_zero, List.set_cons_succ]) | ((with_reducible refine wp_load27 (o := ⟨some 66, .load 27 (.tmp 1), _, _, _, _⟩) ?_ (.tmp 1) ?_ g1 ?_ eA pv LA hv ?_); (· rfl); (· rfl); (· rfl); simp only [Act.put, List.setIfInBounds_toArray, List.set_cons_zero, List.set_cons_succ]) | ((with_reducible refine wp_load27 (o := ⟨some 67, .load 27 (.tmp 5), _, _, _, _⟩) ?_ (.tmp 5) ?_ g3 ?_ eC rv LC hw ?_); (· rfl); (· rfl); (· rfl); simp only [Act.put, List.setIfInBounds_toArray, List.set_cons_zero, List.set_cons_succ]))
    refine (taint_any false oA eA eC pv rv rfl (by decide) (by decide) eA_fit eC_fit false ac_taint m _ (HM3.out.later HC6.out) (HS3.out.later HC6.out) (HR3.out.later HC6.out)).mono ?_
    rintro e X5 ⟨rfl, hB⟩
    have HC7 := Lib.hid (HC6.out.trans (hB.mono HC6.out.size))
    have HQ7 := Lib.hid (HQ6.out.later hB)
    clear hB HC6 HQ6 hu hv hw
    go_wp2_with ((with_reducible refine wp_build_uN (o := ⟨some 72, .build 27 #[(1, .const (.string ⟨#[117]⟩))], _, _, _, _⟩) ?_ (.const (.string ⟨#[117]⟩)) ?_ ?_ ?_); (· rfl); (· rfl); (· rfl); simp only [Act.put, List.setIfInBounds_toArray, List.set_cons_zero, List.set_cons_succ])
    refine (creds_any uN (.slice none 0 0) rfl true uN_creds _).mono ?_
    rintro e X6 ⟨rfl, hB⟩
    have HC8 := Lib.hid (HC7.out.trans (hB.mono HC7.out.size))
    have HQ8 := Lib.hid (HQ7.out.later hB)
    clear hB HC7 HQ7 
    have hu := HQ8.out
    go_wp2_with ((with_reducible refine Req.wp_load32 (o := ⟨some 76, .load 32 (.tmp 7), _, _, _, _⟩) ?_ (.tmp 7) ?_ g4 ?_ q2 qv (.slice none 0 0) ⟨rfl, rfl⟩ hu ?_); (· rfl); (· rfl); (· rfl); simp only [Act.put, List.setIfInBounds_toArray, List.set_cons_zero, List.set_cons_succ])
    refine (crossed_any q2 qv (.slice none 0 0) (q_fit q2 rfl rfl) rfl false q2_cross m _ (HM3.out.later HC8.out) (HT3.out.later HC8.out)).mono ?_
    rintro e X7 ⟨rfl, hB⟩
    have HC9 := Lib.hid (HC8.out.trans (hB.mono HC8.out.size))
    have HQ9 := Lib.hid (HQ8.out.later hB)
    clear hB HC8 HQ8 hu
    go_wp2
    go_ret
    exact ⟨rfl, HB3.out.trans (HC9.out.mono HB3.out.size)⟩

end Go.Proofs.YtlkikfdbjpjpaaaGreatDoor.Taint
