/-
  WHAT IS PROVED: the card of TaintCreds: for any request whose address has few and short parts, whose texts are short, and any two texts of at most 300 bytes: an address with these as name and password has a user just if one of them is not empty; a request crossed just if it had, or is in MoCors elsewhere than at the origin of who asks.
  CONDITIONS: none but the card's own: the listed tables read as their texts lay them; the request and the texts are any.
-/
import Derived.Test.YtlkikfdbjpjpaaaGreatDoorCards
import Derived.Test.YtlkikfdbjpjpaaaGreatDoorTie
import Derived.WalkKit
import Derived.ProofKit
import Derived.OpenShut
import Derived.ShutString
import Derived.ChangeOld
import Derived.Below
import Derived.Deep.RegionHeld
import Derived.Laws.AppendOwnNone
import Derived.Test.YtlkikfdbjpjpaaaGreatDoorTnAwake
import Derived.Test.YtlkikfdbjpjpaaaGreatDoorRqOpen
import Derived.Test.YtlkikfdbjpjpaaaGreatDoorLaid
import Derived.Test.YtlkikfdbjpjpaaaGreatDoorHOpen
namespace Go.Proofs.YtlkikfdbjpjpaaaGreatDoor.taintCreds
open Go.ChangeShapes Go.WideShapes Go.ChangeAt Go.RowKit
open Go.ChangeMaps (open_string shut_string)
open Go.Shelf
open Go.Proofs.YtlkikfdbjpjpaaaGreatDoor.Url
open Go.Proofs.YtlkikfdbjpjpaaaGreatDoor.Host (H)
open Go.Proofs.YtlkikfdbjpjpaaaGreatDoor.Path (Strs)
set_option linter.unusedSimpArgs false
set_option linter.unusedVariables false

theorem own : ownKnob Tryz.prog.godebug = none := by kernel_rfl
theorem laidOut : laidOutB Tryz.prog = true := by kernel_rfl

open Go.Proofs.YtlkikfdbjpjpaaaGreatDoor.Show
open Go.Proofs.YtlkikfdbjpjpaaaGreatDoor.Origin
set_option maxRecDepth 100000
set_option maxHeartbeats 16000000 in
theorem walk (a0 : Req.R) (v0 x0 : Value) (l0 : Req.R8 a0) (a1 a2 : ByteArray) (_b1 : a1.size ≤ maxLen) (_b2 : a2.size ≤ maxLen) (m : Int) (w : World) (hm : Six.At m w) (s0 : Path.Strs w v0 a0.url.path) (y0 : x0.oneCell' = true) (p0 : (Lit.int .i64 a0.o.port).wf = true) :
    Calls Tryz.prog 8 #[.agg (Req.cR a0 v0 x0), .string a1, .string a2] w fun e w' => e = .returned (.bool true) ∧ Below w.heap.size w w' := by
  have b1 : Below w.heap.size w (w.alloc (.cells (Req.cR a0 v0 x0) 32)) := (Below.refl w.heap.size w).alloc (Nat.le_refl _) _
  have HX := Lib.hid b1
  have HQ0 := Lib.hid (Req.RAt.new w a0 v0 x0)
  have HM0 := Lib.hid (hm.later HX.out)
  have HP0 := Lib.hid (s0.later HX.out)
  have PP := Lib.hid s0
  have MM := Lib.hid hm
  clear hm b1 s0
  go_enter Tryz.func8, Tryz.ntmps8
  go_wp2_with fail
  generalize (w.alloc (.cells (Req.cR a0 v0 x0) 32)) = X0 at HX HM0 HQ0 HP0  ⊢
  refine (Taint.awake_calls m X0 HM0.out).mono ?_
  rintro e X1 ⟨rfl, hB⟩
  have HB1 := Lib.hid (hB)
  have HQ1 := Lib.hid (HQ0.out.later hB)
  have HM1 := Lib.hid (HM0.out.later hB)
  have HP1 := Lib.hid (HP0.out.later hB)
  clear HQ0 HM0 HP0
  clear hB
  obtain ⟨f0, hf0⟩ : ∃ b, Req.fewR a0 = b := ⟨_, rfl⟩
  have hu := HQ1.out
  go_wp2_with ((with_reducible refine Req.wp_load32 (o := ⟨some 12, .load 32 (.tmp 3), _, _, _, _⟩) ?_ (.tmp 3) ?_ w.heap.size ?_ a0 v0 x0 l0 hu ?_); (· rfl); (· rfl); (· rfl); simp only [Act.put, List.setIfInBounds_toArray, List.set_cons_zero, List.set_cons_succ])
  refine (Req.few_req_any a0 v0 x0 l0 f0 hf0 _ HP1.out).mono ?_
  rintro e X2 ⟨rfl, hB⟩
  have HB2 := Lib.hid (below_trans HB1.out hB)
  have HQ2 := Lib.hid (HQ1.out.later hB)
  have HM2 := Lib.hid (HM1.out.later hB)
  have HP2 := Lib.hid (HP1.out.later hB)
  clear HB1 HQ1 HM1 HP1
  clear hB hu
  cases f0
  · go_wp2
    go_ret
    exact ⟨rfl, HX.out.trans (HB2.out.mono HX.out.size)⟩
  rcases Nat.lt_or_ge 300 a1.size with q1 | q1
  · have q : decide ((300 : Int) < (a1.size : Int)) = true := decide_eq_true (by omega)
    go_wp2
    go_ret
    exact ⟨rfl, HX.out.trans (HB2.out.mono HX.out.size)⟩
  have r1 : decide ((300 : Int) < (a1.size : Int)) = false := decide_eq_false (by omega)
  rcases Nat.lt_or_ge 300 a2.size with q2 | q2
  · have q : decide ((300 : Int) < (a2.size : Int)) = true := decide_eq_true (by omega)
    go_wp2
    go_ret
    exact ⟨rfl, HX.out.trans (HB2.out.mono HX.out.size)⟩
  have r2 : decide ((300 : Int) < (a2.size : Int)) = false := decide_eq_false (by omega)
  have Q := (Req.few_req a0 l0 p0 hf0).1
  obtain ⟨x1, hx1⟩ : ∃ x, tb x = a1 := ⟨a1.data.toList, rfl⟩
  obtain ⟨x2, hx2⟩ : ∃ x, tb x = a2 := ⟨a2.data.toList, rfl⟩
  obtain ⟨y1, hy1⟩ : ∃ b, (x1 == []) = b := ⟨_, rfl⟩
  obtain ⟨y2, hy2⟩ : ∃ b, (x2 == []) = b := ⟨_, rfl⟩
  have e1 : (a1.toList == []) = y1 := by rw [← hy1, Path.tl, list_tb hx1]
  have e2 : (a2.toList == []) = y2 := by rw [← hy2, Path.tl, list_tb hx2]
  obtain ⟨n, hn⟩ : ∃ n, a0.mode = n := ⟨_, rfl⟩
  obtain ⟨d, hd⟩ : ∃ b, (n == 1) = b := ⟨_, rfl⟩
  obtain ⟨k, hk⟩ : ∃ b, a0.crs = b := ⟨_, rfl⟩
  obtain ⟨o, ho⟩ : ∃ x, ofU a0.url = x := ⟨_, rfl⟩
  obtain ⟨o8, oz, oy⟩ := of_size a0.url Q.u
  rw [ho] at o8 oz oy
  obtain ⟨z, hz⟩ : ∃ b, sameO a0.o o = b := ⟨_, rfl⟩
  obtain ⟨c, hc⟩ : ∃ b, Taint.crossB a0 = b := ⟨_, rfl⟩
  obtain ⟨r, hr⟩ : ∃ b, Taint.credsB { a0.url with usr := x1, pas := x2 } = b := ⟨_, rfl⟩
  have HR := Lib.hid (show r = (!y1 || !y2) by rw [← hr, ← hy1, ← hy2]; rfl)
  have HC := Lib.hid (show c = (k || (d && !z)) by
    rw [← hc, ← hk, ← hd, ← hn, ← hz, ← ho]; rfl)
  have CR := Lib.hid (fun y => Taint.creds_any { a0.url with usr := x1, pas := x2 } v0 l0.u r hr y)
  have CK := Lib.hid (fun y hm hs => Taint.crossed_any a0 v0 x0 Q y0 c hc m y hm hs)
  have CO := Lib.hid (fun y hm hs => of_any a0.url v0 Q.u o ho m y hm hs)
  have CS := Lib.hid (fun y hm => osame_any a0.o o l0.o o8 Q.os Q.ol z hz m y hm)
  have HNN := Lib.hid hn
  have HK := Lib.hid hk
  have HX1 := Lib.hid hx1
  have HX2 := Lib.hid hx2
  have HONE := Lib.hid (strs_one PP.out)
  clear hf0 Q q1 q2 hy1 hy2 ho o8 oz oy hz hc hr hn hk hx1 hx2
  have HW0 := Lib.hid (HX.out.trans (HB2.out.mono HX.out.size))
  have RQ0 := Lib.hid HQ2.out
  clear HB2 HQ2 HM2 HP2
  have hnew := new_url X2
  have HZ := Lib.hid (below_url X2 a0.url v0)
  have HG := Lib.hid (hnew.row a0.url v0)
  have NG := Lib.hid (show w.heap.size ≤ X2.heap.size from HW0.out.size)
  have NL := Lib.hid (show w.heap.size < X2.heap.size from RQ0.out.lt)
  have hu := RQ0.out
  have hone := HONE.out
  go_upto_region 6 with (first | ((with_reducible refine Req.wp_load27r (o := ⟨some 32, .load 27 (.tmp 31), _, _, _, _⟩) ?_ (.tmp 31) ?_ w.heap.size ?_ a0 v0 x0 l0 hu ?_); (· rfl); (· rfl); (· rfl); simp only [Act.put, List.setIfInBounds_toArray, List.set_cons_zero, List.set_cons_succ]) | ((with_reducible refine wp_store27 (o := ⟨none, .store 27 (.tmp 9) (.tmp 32), _, _, _, _⟩) ?_ (.tmp 9) (.tmp 32) ?_ X2.heap.size ?_ a0.url v0 ?_ l0.u hone none1 (.slice none 0 0) rfl hnew ?_); (· rfl); (· rfl); (· rfl); (· rfl); simp only [Act.put, List.setIfInBounds_toArray, List.set_cons_zero, List.set_cons_succ]))
  clear hnew hu hone
  generalize (X2.alloc (.cells #[.string ⟨#[]⟩, .string ⟨#[]⟩, .string ⟨#[]⟩, .int .i64 0, .string ⟨#[]⟩, .int .i64 0, .int .i64 0, .int .i64 0, .int .i64 0, .int .i64 0, .int .i64 0, .int .i64 0, .int .i64 0, .int .i64 0, .int .i64 0, .slice none 0 0, .string ⟨#[]⟩, .string ⟨#[]⟩, .string ⟨#[]⟩, .bool false, .bool false] 27)).setRow X2.heap.size (cU a0.url v0) = Y5 at HZ HG ⊢
  generalize X2.heap.size = g9 at HZ HG NG NL ⊢
  have dd := HG.out.cell 1
  rw [(cU_at a0.url v0 l0.u).2.1] at dd
  have ff := HG.out.free 1
  go_upto_region 7 with fail
  clear dd ff
  have HG2 := Lib.hid (show UrlAt (Y5.setCell ⟨g9, 1, none⟩ (.string a1)) g9 { a0.url with usr := x1 } v0 from by rw [← HX1.out]; exact Req.put_usr HG.out l0.u x1)
  have HZ2 := Lib.hid (below_set HZ.out (Nat.le_refl g9) 1 (.string a1))
  clear HG HZ
  generalize Y5.setCell ⟨g9, 1, none⟩ (.string a1) = Y6 at HG2 HZ2 ⊢
  have HG := HG2
  have HZ := HZ2
  clear HG2 HZ2
  have dd := HG.out.cell 2
  rw [(cU_at { a0.url with usr := x1 } v0 l0.u).2.2.1] at dd
  have ff := HG.out.free 2
  go_upto_region 8 with fail
  clear dd ff
  have HG2 := Lib.hid (show UrlAt (Y6.setCell ⟨g9, 2, none⟩ (.string a2)) g9 { a0.url with usr := x1, pas := x2 } v0 from by rw [← HX2.out]; exact Req.put_pas HG.out l0.u x2)
  have HZ2 := Lib.hid (below_set HZ.out (Nat.le_refl g9) 2 (.string a2))
  clear HG HZ
  generalize Y6.setCell ⟨g9, 2, none⟩ (.string a2) = Y7 at HG2 HZ2 ⊢
  have HG := HG2
  have HZ := HZ2
  clear HG2 HZ2
  have HW1 := Lib.hid (HW0.out.trans (HZ.out.mono NG.out))
  have RQ1 := Lib.hid (show Req.RAt Y7 w.heap.size a0 v0 x0 from (HZ.out.block _ NL.out).trans RQ0.out)
  clear HZ NG NL HW0 RQ0 HONE HX1 HX2
  try go_wp2_with fail
  have QO := Lib.hid (fun u (hu : Below Y7.heap.size Y7 u) => (RQ1.out.later hu).org l0)
  have QU := Lib.hid (fun u (hu : Below Y7.heap.size Y7 u) => (RQ1.out.later hu).url l0)
  have QR := Lib.hid (fun u (hu : Below Y7.heap.size Y7 u) => (RQ1.out.later hu).load l0)
  have QV := Lib.hid (Url.q_url HG.out l0.u)
  have QC := Lib.hid (fun u (hu : Below Y7.heap.size Y7 u) => load4 (((RQ1.out.later hu).cell 43).trans (by rw [(Req.cR_at a0 v0 x0 l0).2.2.2.2.2.2.2.2.1, HK.out])))
  have QN := Lib.hid (fun u (hu : Below Y7.heap.size Y7 u) => load3 (((RQ1.out.later hu).cell 38).trans (by rw [(Req.cR_at a0 v0 x0 l0).2.2.2.1, HNN.out])))
  have QM := Lib.hid (fun u (hu : Below Y7.heap.size Y7 u) => MM.out.later (HW1.out.trans (hu.mono HW1.out.size)))
  have QP := Lib.hid (fun u (hu : Below Y7.heap.size Y7 u) => PP.out.later (HW1.out.trans (hu.mono HW1.out.size)))
  refine Ascii.wp_region_quiet_below (by kernel_rfl) (by kernel_rfl) ?_
  go_big_quiet_step ((intro _; rfl))
  ((go_big_quiet_want; (with_reducible refine Host.quiet_load (o := ⟨some 38, .load 30 (.tmp 37), _, _, _, _⟩) 30 (.tmp 37) ?_ _ ?_ _ QO.out ?_); (· rfl); (· rfl)); go_big_quiet_on; simp only [Act.put, List.setIfInBounds_toArray, List.set_cons_succ, List.set_cons_zero])
  go_big_quiet_step ((intro _; rfl))
  ((go_big_quiet_want; (with_reducible refine Host.quiet_load (o := ⟨some 40, .load 27 (.tmp 39), _, _, _, _⟩) 27 (.tmp 39) ?_ _ ?_ _ QU.out ?_); (· rfl); (· rfl)); go_big_quiet_on; simp only [Act.put, List.setIfInBounds_toArray, List.set_cons_succ, List.set_cons_zero])
  go_big_quiet_step ((intro hu; go_at_call 23; exact (CO.out _ (QM.out _ hu) (QP.out _ hu)).mono fun e u' h => ⟨h.1, hu.trans (h.2.mono hu.size)⟩))
  go_big_quiet_step ((intro hu; go_at_call 22; exact (CS.out _ (QM.out _ hu)).mono fun e u' h => ⟨h.1, hu.trans (h.2.mono hu.size)⟩))
  repeat (go_big_quiet_step ((intro _; rfl)))
  refine wpQuiet_nil ?_
  intro X5 hB
  have HW2 := Lib.hid (HW1.out.trans (hB.mono HW1.out.size))
  have RQ2 := Lib.hid (RQ1.out.later hB)
  have HG2 := Lib.hid (HG.out.later hB)
  clear hB QO QU QM QP QR QV QC QN CO CS HW1 RQ1 HG
  have HG := HG2
  clear HG2
  cases y1
  · cases k
    · cases d
      · obtain rfl : r = _ := HR.out
        obtain rfl : c = _ := HC.out
        simp only [Bool.not_true, Bool.not_false, Bool.true_or, Bool.false_or, Bool.or_true, Bool.or_false, Bool.true_and, Bool.false_and, Bool.and_true, Bool.and_false] at CR CK
        try go_wp2_with fail
        have QO := Lib.hid (fun u (hu : Below X5.heap.size X5 u) => (RQ2.out.later hu).org l0)
        have QU := Lib.hid (fun u (hu : Below X5.heap.size X5 u) => (RQ2.out.later hu).url l0)
        have QR := Lib.hid (fun u (hu : Below X5.heap.size X5 u) => (RQ2.out.later hu).load l0)
        have QV := Lib.hid (Url.q_url HG.out l0.u)
        have QC := Lib.hid (fun u (hu : Below X5.heap.size X5 u) => load4 (((RQ2.out.later hu).cell 43).trans (by rw [(Req.cR_at a0 v0 x0 l0).2.2.2.2.2.2.2.2.1, HK.out])))
        have QN := Lib.hid (fun u (hu : Below X5.heap.size X5 u) => load3 (((RQ2.out.later hu).cell 38).trans (by rw [(Req.cR_at a0 v0 x0 l0).2.2.2.1, HNN.out])))
        have QM := Lib.hid (fun u (hu : Below X5.heap.size X5 u) => MM.out.later (HW2.out.trans (hu.mono HW2.out.size)))
        have QP := Lib.hid (fun u (hu : Below X5.heap.size X5 u) => PP.out.later (HW2.out.trans (hu.mono HW2.out.size)))
        refine Ascii.wp_region_quiet_below (by kernel_rfl) (by kernel_rfl) ?_
        ((go_big_quiet_want; (with_reducible refine Host.quiet_load (o := ⟨some 43, .load 27 (.tmp 9), _, _, _, _⟩) 27 (.tmp 9) ?_ _ ?_ _ QV.out ?_); (· rfl); (· rfl)); go_big_quiet_on; simp only [Act.put, List.setIfInBounds_toArray, List.set_cons_succ, List.set_cons_zero])
        go_big_quiet_step ((intro hu; go_at_call 20; exact (CR.out _).mono fun e u' h => ⟨h.1, hu.trans (h.2.mono hu.size)⟩))
        go_big_quiet_step ((intro _; rfl))
        go_big_quiet_step ((intro _; rfl))
        go_big_quiet_step ((intro _; rfl))
        go_big_quiet_step ((intro _; rfl))
        go_big_quiet_step ((intro _; rfl))
        go_big_quiet_step ((intro _; rfl))
        go_big_quiet_step ((intro _; rfl))
        go_big_quiet_step ((intro _; rfl))
        (first | go_big_quiet_skip | ((go_big_quiet_want; (with_reducible refine Host.quiet_load (o := ⟨some 53, .load 32 (.tmp 3), _, _, _, _⟩) 32 (.tmp 3) ?_ _ ?_ _ QR.out ?_); (· rfl); (· rfl)); go_big_quiet_on; simp only [Act.put, List.setIfInBounds_toArray, List.set_cons_succ, List.set_cons_zero]))
        go_big_quiet_step ((intro hu; go_at_call 19; exact (CK.out _ (QM.out _ hu) (QP.out _ hu)).mono fun e u' h => ⟨h.1, hu.trans (h.2.mono hu.size)⟩))
        go_big_quiet_step ((intro _; rfl))
        (first | go_big_quiet_skip | ((go_big_quiet_want; (with_reducible refine Host.quiet_load (o := ⟨some 56, .load 4 (.tmp 55), _, _, _, _⟩) 4 (.tmp 55) ?_ _ ?_ _ QC.out ?_); (· rfl); (· rfl)); go_big_quiet_on; simp only [Act.put, List.setIfInBounds_toArray, List.set_cons_succ, List.set_cons_zero]))
        go_big_quiet_step ((intro _; rfl))
        go_big_quiet_step ((intro _; rfl))
        (first | go_big_quiet_skip | ((go_big_quiet_want; (with_reducible refine Host.quiet_load (o := ⟨some 59, .load 3 (.tmp 58), _, _, _, _⟩) 3 (.tmp 58) ?_ _ ?_ _ QN.out ?_); (· rfl); (· rfl)); go_big_quiet_on; simp only [Act.put, List.setIfInBounds_toArray, List.set_cons_succ, List.set_cons_zero]))
        go_big_quiet_step ((intro _; rfl))
        go_big_quiet_step ((intro _; rfl))
        go_big_quiet_step ((intro _; rfl))
        go_big_quiet_step ((intro _; rfl))
        go_big_quiet_step ((intro _; rfl))
        go_big_quiet_step ((intro _; rfl))
        go_big_quiet_step ((intro _; rfl))
        go_big_quiet_step ((intro _; rfl))
        repeat (go_big_quiet_step ((intro _; rfl)))
        refine wpQuiet_nil ?_
        intro X6 hB
        go_wp2
        go_ret
        exact ⟨rfl, HW2.out.trans (hB.mono HW2.out.size)⟩
      · cases z
        · obtain rfl : r = _ := HR.out
          obtain rfl : c = _ := HC.out
          simp only [Bool.not_true, Bool.not_false, Bool.true_or, Bool.false_or, Bool.or_true, Bool.or_false, Bool.true_and, Bool.false_and, Bool.and_true, Bool.and_false] at CR CK
          try go_wp2_with fail
          have QO := Lib.hid (fun u (hu : Below X5.heap.size X5 u) => (RQ2.out.later hu).org l0)
          have QU := Lib.hid (fun u (hu : Below X5.heap.size X5 u) => (RQ2.out.later hu).url l0)
          have QR := Lib.hid (fun u (hu : Below X5.heap.size X5 u) => (RQ2.out.later hu).load l0)
          have QV := Lib.hid (Url.q_url HG.out l0.u)
          have QC := Lib.hid (fun u (hu : Below X5.heap.size X5 u) => load4 (((RQ2.out.later hu).cell 43).trans (by rw [(Req.cR_at a0 v0 x0 l0).2.2.2.2.2.2.2.2.1, HK.out])))
          have QN := Lib.hid (fun u (hu : Below X5.heap.size X5 u) => load3 (((RQ2.out.later hu).cell 38).trans (by rw [(Req.cR_at a0 v0 x0 l0).2.2.2.1, HNN.out])))
          have QM := Lib.hid (fun u (hu : Below X5.heap.size X5 u) => MM.out.later (HW2.out.trans (hu.mono HW2.out.size)))
          have QP := Lib.hid (fun u (hu : Below X5.heap.size X5 u) => PP.out.later (HW2.out.trans (hu.mono HW2.out.size)))
          refine Ascii.wp_region_quiet_below (by kernel_rfl) (by kernel_rfl) ?_
          ((go_big_quiet_want; (with_reducible refine Host.quiet_load (o := ⟨some 43, .load 27 (.tmp 9), _, _, _, _⟩) 27 (.tmp 9) ?_ _ ?_ _ QV.out ?_); (· rfl); (· rfl)); go_big_quiet_on; simp only [Act.put, List.setIfInBounds_toArray, List.set_cons_succ, List.set_cons_zero])
          go_big_quiet_step ((intro hu; go_at_call 20; exact (CR.out _).mono fun e u' h => ⟨h.1, hu.trans (h.2.mono hu.size)⟩))
          go_big_quiet_step ((intro _; rfl))
          go_big_quiet_step ((intro _; rfl))
          go_big_quiet_step ((intro _; rfl))
          go_big_quiet_step ((intro _; rfl))
          go_big_quiet_step ((intro _; rfl))
          go_big_quiet_step ((intro _; rfl))
          go_big_quiet_step ((intro _; rfl))
          go_big_quiet_step ((intro _; rfl))
          (first | go_big_quiet_skip | ((go_big_quiet_want; (with_reducible refine Host.quiet_load (o := ⟨some 53, .load 32 (.tmp 3), _, _, _, _⟩) 32 (.tmp 3) ?_ _ ?_ _ QR.out ?_); (· rfl); (· rfl)); go_big_quiet_on; simp only [Act.put, List.setIfInBounds_toArray, List.set_cons_succ, List.set_cons_zero]))
          go_big_quiet_step ((intro hu; go_at_call 19; exact (CK.out _ (QM.out _ hu) (QP.out _ hu)).mono fun e u' h => ⟨h.1, hu.trans (h.2.mono hu.size)⟩))
          go_big_quiet_step ((intro _; rfl))
          (first | go_big_quiet_skip | ((go_big_quiet_want; (with_reducible refine Host.quiet_load (o := ⟨some 56, .load 4 (.tmp 55), _, _, _, _⟩) 4 (.tmp 55) ?_ _ ?_ _ QC.out ?_); (· rfl); (· rfl)); go_big_quiet_on; simp only [Act.put, List.setIfInBounds_toArray, List.set_cons_succ, List.set_cons_zero]))
          go_big_quiet_step ((intro _; rfl))
          go_big_quiet_step ((intro _; rfl))
          (first | go_big_quiet_skip | ((go_big_quiet_want; (with_reducible refine Host.quiet_load (o := ⟨some 59, .load 3 (.tmp 58), _, _, _, _⟩) 3 (.tmp 58) ?_ _ ?_ _ QN.out ?_); (· rfl); (· rfl)); go_big_quiet_on; simp only [Act.put, List.setIfInBounds_toArray, List.set_cons_succ, List.set_cons_zero]))
          go_big_quiet_step ((intro _; rfl))
          go_big_quiet_step ((intro _; rfl))
          go_big_quiet_step ((intro _; rfl))
          go_big_quiet_step ((intro _; rfl))
          go_big_quiet_step ((intro _; rfl))
          go_big_quiet_step ((intro _; rfl))
          go_big_quiet_step ((intro _; rfl))
          go_big_quiet_step ((intro _; rfl))
          repeat (go_big_quiet_step ((intro _; rfl)))
          refine wpQuiet_nil ?_
          intro X6 hB
          go_wp2
          go_ret
          exact ⟨rfl, HW2.out.trans (hB.mono HW2.out.size)⟩
        · obtain rfl : r = _ := HR.out
          obtain rfl : c = _ := HC.out
          simp only [Bool.not_true, Bool.not_false, Bool.true_or, Bool.false_or, Bool.or_true, Bool.or_false, Bool.true_and, Bool.false_and, Bool.and_true, Bool.and_false] at CR CK
          try go_wp2_with fail
          have QO := Lib.hid (fun u (hu : Below X5.heap.size X5 u) => (RQ2.out.later hu).org l0)
          have QU := Lib.hid (fun u (hu : Below X5.heap.size X5 u) => (RQ2.out.later hu).url l0)
          have QR := Lib.hid (fun u (hu : Below X5.heap.size X5 u) => (RQ2.out.later hu).load l0)
          have QV := Lib.hid (Url.q_url HG.out l0.u)
          have QC := Lib.hid (fun u (hu : Below X5.heap.size X5 u) => load4 (((RQ2.out.later hu).cell 43).trans (by rw [(Req.cR_at a0 v0 x0 l0).2.2.2.2.2.2.2.2.1, HK.out])))
          have QN := Lib.hid (fun u (hu : Below X5.heap.size X5 u) => load3 (((RQ2.out.later hu).cell 38).trans (by rw [(Req.cR_at a0 v0 x0 l0).2.2.2.1, HNN.out])))
          have QM := Lib.hid (fun u (hu : Below X5.heap.size X5 u) => MM.out.later (HW2.out.trans (hu.mono HW2.out.size)))
          have QP := Lib.hid (fun u (hu : Below X5.heap.size X5 u) => PP.out.later (HW2.out.trans (hu.mono HW2.out.size)))
          refine Ascii.wp_region_quiet_below (by kernel_rfl) (by kernel_rfl) ?_
          ((go_big_quiet_want; (with_reducible refine Host.quiet_load (o := ⟨some 43, .load 27 (.tmp 9), _, _, _, _⟩) 27 (.tmp 9) ?_ _ ?_ _ QV.out ?_); (· rfl); (· rfl)); go_big_quiet_on; simp only [Act.put, List.setIfInBounds_toArray, List.set_cons_succ, List.set_cons_zero])
          go_big_quiet_step ((intro hu; go_at_call 20; exact (CR.out _).mono fun e u' h => ⟨h.1, hu.trans (h.2.mono hu.size)⟩))
          go_big_quiet_step ((intro _; rfl))
          go_big_quiet_step ((intro _; rfl))
          go_big_quiet_step ((intro _; rfl))
          go_big_quiet_step ((intro _; rfl))
          go_big_quiet_step ((intro _; rfl))
          go_big_quiet_step ((intro _; rfl))
          go_big_quiet_step ((intro _; rfl))
          go_big_quiet_step ((intro _; rfl))
          (first | go_big_quiet_skip | ((go_big_quiet_want; (with_reducible refine Host.quiet_load (o := ⟨some 53, .load 32 (.tmp 3), _, _, _, _⟩) 32 (.tmp 3) ?_ _ ?_ _ QR.out ?_); (· rfl); (· rfl)); go_big_quiet_on; simp only [Act.put, List.setIfInBounds_toArray, List.set_cons_succ, List.set_cons_zero]))
          go_big_quiet_step ((intro hu; go_at_call 19; exact (CK.out _ (QM.out _ hu) (QP.out _ hu)).mono fun e u' h => ⟨h.1, hu.trans (h.2.mono hu.size)⟩))
          go_big_quiet_step ((intro _; rfl))
          (first | go_big_quiet_skip | ((go_big_quiet_want; (with_reducible refine Host.quiet_load (o := ⟨some 56, .load 4 (.tmp 55), _, _, _, _⟩) 4 (.tmp 55) ?_ _ ?_ _ QC.out ?_); (· rfl); (· rfl)); go_big_quiet_on; simp only [Act.put, List.setIfInBounds_toArray, List.set_cons_succ, List.set_cons_zero]))
          go_big_quiet_step ((intro _; rfl))
          go_big_quiet_step ((intro _; rfl))
          (first | go_big_quiet_skip | ((go_big_quiet_want; (with_reducible refine Host.quiet_load (o := ⟨some 59, .load 3 (.tmp 58), _, _, _, _⟩) 3 (.tmp 58) ?_ _ ?_ _ QN.out ?_); (· rfl); (· rfl)); go_big_quiet_on; simp only [Act.put, List.setIfInBounds_toArray, List.set_cons_succ, List.set_cons_zero]))
          go_big_quiet_step ((intro _; rfl))
          go_big_quiet_step ((intro _; rfl))
          go_big_quiet_step ((intro _; rfl))
          go_big_quiet_step ((intro _; rfl))
          go_big_quiet_step ((intro _; rfl))
          go_big_quiet_step ((intro _; rfl))
          go_big_quiet_step ((intro _; rfl))
          go_big_quiet_step ((intro _; rfl))
          repeat (go_big_quiet_step ((intro _; rfl)))
          refine wpQuiet_nil ?_
          intro X6 hB
          go_wp2
          go_ret
          exact ⟨rfl, HW2.out.trans (hB.mono HW2.out.size)⟩
    · obtain rfl : r = _ := HR.out
      obtain rfl : c = _ := HC.out
      simp only [Bool.not_true, Bool.not_false, Bool.true_or, Bool.false_or, Bool.or_true, Bool.or_false, Bool.true_and, Bool.false_and, Bool.and_true, Bool.and_false] at CR CK
      try go_wp2_with fail
      have QO := Lib.hid (fun u (hu : Below X5.heap.size X5 u) => (RQ2.out.later hu).org l0)
      have QU := Lib.hid (fun u (hu : Below X5.heap.size X5 u) => (RQ2.out.later hu).url l0)
      have QR := Lib.hid (fun u (hu : Below X5.heap.size X5 u) => (RQ2.out.later hu).load l0)
      have QV := Lib.hid (Url.q_url HG.out l0.u)
      have QC := Lib.hid (fun u (hu : Below X5.heap.size X5 u) => load4 (((RQ2.out.later hu).cell 43).trans (by rw [(Req.cR_at a0 v0 x0 l0).2.2.2.2.2.2.2.2.1, HK.out])))
      have QN := Lib.hid (fun u (hu : Below X5.heap.size X5 u) => load3 (((RQ2.out.later hu).cell 38).trans (by rw [(Req.cR_at a0 v0 x0 l0).2.2.2.1, HNN.out])))
      have QM := Lib.hid (fun u (hu : Below X5.heap.size X5 u) => MM.out.later (HW2.out.trans (hu.mono HW2.out.size)))
      have QP := Lib.hid (fun u (hu : Below X5.heap.size X5 u) => PP.out.later (HW2.out.trans (hu.mono HW2.out.size)))
      refine Ascii.wp_region_quiet_below (by kernel_rfl) (by kernel_rfl) ?_
      ((go_big_quiet_want; (with_reducible refine Host.quiet_load (o := ⟨some 43, .load 27 (.tmp 9), _, _, _, _⟩) 27 (.tmp 9) ?_ _ ?_ _ QV.out ?_); (· rfl); (· rfl)); go_big_quiet_on; simp only [Act.put, List.setIfInBounds_toArray, List.set_cons_succ, List.set_cons_zero])
      go_big_quiet_step ((intro hu; go_at_call 20; exact (CR.out _).mono fun e u' h => ⟨h.1, hu.trans (h.2.mono hu.size)⟩))
      go_big_quiet_step ((intro _; rfl))
      go_big_quiet_step ((intro _; rfl))
      go_big_quiet_step ((intro _; rfl))
      go_big_quiet_step ((intro _; rfl))
      go_big_quiet_step ((intro _; rfl))
      go_big_quiet_step ((intro _; rfl))
      go_big_quiet_step ((intro _; rfl))
      go_big_quiet_step ((intro _; rfl))
      (first | go_big_quiet_skip | ((go_big_quiet_want; (with_reducible refine Host.quiet_load (o := ⟨some 53, .load 32 (.tmp 3), _, _, _, _⟩) 32 (.tmp 3) ?_ _ ?_ _ QR.out ?_); (· rfl); (· rfl)); go_big_quiet_on; simp only [Act.put, List.setIfInBounds_toArray, List.set_cons_succ, List.set_cons_zero]))
      go_big_quiet_step ((intro hu; go_at_call 19; exact (CK.out _ (QM.out _ hu) (QP.out _ hu)).mono fun e u' h => ⟨h.1, hu.trans (h.2.mono hu.size)⟩))
      go_big_quiet_step ((intro _; rfl))
      (first | go_big_quiet_skip | ((go_big_quiet_want; (with_reducible refine Host.quiet_load (o := ⟨some 56, .load 4 (.tmp 55), _, _, _, _⟩) 4 (.tmp 55) ?_ _ ?_ _ QC.out ?_); (· rfl); (· rfl)); go_big_quiet_on; simp only [Act.put, List.setIfInBounds_toArray, List.set_cons_succ, List.set_cons_zero]))
      go_big_quiet_step ((intro _; rfl))
      go_big_quiet_step ((intro _; rfl))
      (first | go_big_quiet_skip | ((go_big_quiet_want; (with_reducible refine Host.quiet_load (o := ⟨some 59, .load 3 (.tmp 58), _, _, _, _⟩) 3 (.tmp 58) ?_ _ ?_ _ QN.out ?_); (· rfl); (· rfl)); go_big_quiet_on; simp only [Act.put, List.setIfInBounds_toArray, List.set_cons_succ, List.set_cons_zero]))
      go_big_quiet_step ((intro _; rfl))
      go_big_quiet_step ((intro _; rfl))
      go_big_quiet_step ((intro _; rfl))
      go_big_quiet_step ((intro _; rfl))
      go_big_quiet_step ((intro _; rfl))
      go_big_quiet_step ((intro _; rfl))
      go_big_quiet_step ((intro _; rfl))
      go_big_quiet_step ((intro _; rfl))
      repeat (go_big_quiet_step ((intro _; rfl)))
      refine wpQuiet_nil ?_
      intro X6 hB
      go_wp2
      go_ret
      exact ⟨rfl, HW2.out.trans (hB.mono HW2.out.size)⟩
  · cases y2
    · cases k
      · cases d
        · obtain rfl : r = _ := HR.out
          obtain rfl : c = _ := HC.out
          simp only [Bool.not_true, Bool.not_false, Bool.true_or, Bool.false_or, Bool.or_true, Bool.or_false, Bool.true_and, Bool.false_and, Bool.and_true, Bool.and_false] at CR CK
          try go_wp2_with fail
          have QO := Lib.hid (fun u (hu : Below X5.heap.size X5 u) => (RQ2.out.later hu).org l0)
          have QU := Lib.hid (fun u (hu : Below X5.heap.size X5 u) => (RQ2.out.later hu).url l0)
          have QR := Lib.hid (fun u (hu : Below X5.heap.size X5 u) => (RQ2.out.later hu).load l0)
          have QV := Lib.hid (Url.q_url HG.out l0.u)
          have QC := Lib.hid (fun u (hu : Below X5.heap.size X5 u) => load4 (((RQ2.out.later hu).cell 43).trans (by rw [(Req.cR_at a0 v0 x0 l0).2.2.2.2.2.2.2.2.1, HK.out])))
          have QN := Lib.hid (fun u (hu : Below X5.heap.size X5 u) => load3 (((RQ2.out.later hu).cell 38).trans (by rw [(Req.cR_at a0 v0 x0 l0).2.2.2.1, HNN.out])))
          have QM := Lib.hid (fun u (hu : Below X5.heap.size X5 u) => MM.out.later (HW2.out.trans (hu.mono HW2.out.size)))
          have QP := Lib.hid (fun u (hu : Below X5.heap.size X5 u) => PP.out.later (HW2.out.trans (hu.mono HW2.out.size)))
          refine Ascii.wp_region_quiet_below (by kernel_rfl) (by kernel_rfl) ?_
          ((go_big_quiet_want; (with_reducible refine Host.quiet_load (o := ⟨some 43, .load 27 (.tmp 9), _, _, _, _⟩) 27 (.tmp 9) ?_ _ ?_ _ QV.out ?_); (· rfl); (· rfl)); go_big_quiet_on; simp only [Act.put, List.setIfInBounds_toArray, List.set_cons_succ, List.set_cons_zero])
          go_big_quiet_step ((intro hu; go_at_call 20; exact (CR.out _).mono fun e u' h => ⟨h.1, hu.trans (h.2.mono hu.size)⟩))
          go_big_quiet_step ((intro _; rfl))
          go_big_quiet_step ((intro _; rfl))
          go_big_quiet_step ((intro _; rfl))
          go_big_quiet_step ((intro _; rfl))
          go_big_quiet_step ((intro _; rfl))
          go_big_quiet_step ((intro _; rfl))
          go_big_quiet_step ((intro _; rfl))
          go_big_quiet_step ((intro _; rfl))
          (first | go_big_quiet_skip | ((go_big_quiet_want; (with_reducible refine Host.quiet_load (o := ⟨some 53, .load 32 (.tmp 3), _, _, _, _⟩) 32 (.tmp 3) ?_ _ ?_ _ QR.out ?_); (· rfl); (· rfl)); go_big_quiet_on; simp only [Act.put, List.setIfInBounds_toArray, List.set_cons_succ, List.set_cons_zero]))
          go_big_quiet_step ((intro hu; go_at_call 19; exact (CK.out _ (QM.out _ hu) (QP.out _ hu)).mono fun e u' h => ⟨h.1, hu.trans (h.2.mono hu.size)⟩))
          go_big_quiet_step ((intro _; rfl))
          (first | go_big_quiet_skip | ((go_big_quiet_want; (with_reducible refine Host.quiet_load (o := ⟨some 56, .load 4 (.tmp 55), _, _, _, _⟩) 4 (.tmp 55) ?_ _ ?_ _ QC.out ?_); (· rfl); (· rfl)); go_big_quiet_on; simp only [Act.put, List.setIfInBounds_toArray, List.set_cons_succ, List.set_cons_zero]))
          go_big_quiet_step ((intro _; rfl))
          go_big_quiet_step ((intro _; rfl))
          (first | go_big_quiet_skip | ((go_big_quiet_want; (with_reducible refine Host.quiet_load (o := ⟨some 59, .load 3 (.tmp 58), _, _, _, _⟩) 3 (.tmp 58) ?_ _ ?_ _ QN.out ?_); (· rfl); (· rfl)); go_big_quiet_on; simp only [Act.put, List.setIfInBounds_toArray, List.set_cons_succ, List.set_cons_zero]))
          go_big_quiet_step ((intro _; rfl))
          go_big_quiet_step ((intro _; rfl))
          go_big_quiet_step ((intro _; rfl))
          go_big_quiet_step ((intro _; rfl))
          go_big_quiet_step ((intro _; rfl))
          go_big_quiet_step ((intro _; rfl))
          go_big_quiet_step ((intro _; rfl))
          go_big_quiet_step ((intro _; rfl))
          repeat (go_big_quiet_step ((intro _; rfl)))
          refine wpQuiet_nil ?_
          intro X6 hB
          go_wp2
          go_ret
          exact ⟨rfl, HW2.out.trans (hB.mono HW2.out.size)⟩
        · cases z
          · obtain rfl : r = _ := HR.out
            obtain rfl : c = _ := HC.out
            simp only [Bool.not_true, Bool.not_false, Bool.true_or, Bool.false_or, Bool.or_true, Bool.or_false, Bool.true_and, Bool.false_and, Bool.and_true, Bool.and_false] at CR CK
            try go_wp2_with fail
            have QO := Lib.hid (fun u (hu : Below X5.heap.size X5 u) => (RQ2.out.later hu).org l0)
            have QU := Lib.hid (fun u (hu : Below X5.heap.size X5 u) => (RQ2.out.later hu).url l0)
            have QR := Lib.hid (fun u (hu : Below X5.heap.size X5 u) => (RQ2.out.later hu).load l0)
            have QV := Lib.hid (Url.q_url HG.out l0.u)
            have QC := Lib.hid (fun u (hu : Below X5.heap.size X5 u) => load4 (((RQ2.out.later hu).cell 43).trans (by rw [(Req.cR_at a0 v0 x0 l0).2.2.2.2.2.2.2.2.1, HK.out])))
            have QN := Lib.hid (fun u (hu : Below X5.heap.size X5 u) => load3 (((RQ2.out.later hu).cell 38).trans (by rw [(Req.cR_at a0 v0 x0 l0).2.2.2.1, HNN.out])))
            have QM := Lib.hid (fun u (hu : Below X5.heap.size X5 u) => MM.out.later (HW2.out.trans (hu.mono HW2.out.size)))
            have QP := Lib.hid (fun u (hu : Below X5.heap.size X5 u) => PP.out.later (HW2.out.trans (hu.mono HW2.out.size)))
            refine Ascii.wp_region_quiet_below (by kernel_rfl) (by kernel_rfl) ?_
            ((go_big_quiet_want; (with_reducible refine Host.quiet_load (o := ⟨some 43, .load 27 (.tmp 9), _, _, _, _⟩) 27 (.tmp 9) ?_ _ ?_ _ QV.out ?_); (· rfl); (· rfl)); go_big_quiet_on; simp only [Act.put, List.setIfInBounds_toArray, List.set_cons_succ, List.set_cons_zero])
            go_big_quiet_step ((intro hu; go_at_call 20; exact (CR.out _).mono fun e u' h => ⟨h.1, hu.trans (h.2.mono hu.size)⟩))
            go_big_quiet_step ((intro _; rfl))
            go_big_quiet_step ((intro _; rfl))
            go_big_quiet_step ((intro _; rfl))
            go_big_quiet_step ((intro _; rfl))
            go_big_quiet_step ((intro _; rfl))
            go_big_quiet_step ((intro _; rfl))
            go_big_quiet_step ((intro _; rfl))
            go_big_quiet_step ((intro _; rfl))
            (first | go_big_quiet_skip | ((go_big_quiet_want; (with_reducible refine Host.quiet_load (o := ⟨some 53, .load 32 (.tmp 3), _, _, _, _⟩) 32 (.tmp 3) ?_ _ ?_ _ QR.out ?_); (· rfl); (· rfl)); go_big_quiet_on; simp only [Act.put, List.setIfInBounds_toArray, List.set_cons_succ, List.set_cons_zero]))
            go_big_quiet_step ((intro hu; go_at_call 19; exact (CK.out _ (QM.out _ hu) (QP.out _ hu)).mono fun e u' h => ⟨h.1, hu.trans (h.2.mono hu.size)⟩))
            go_big_quiet_step ((intro _; rfl))
            (first | go_big_quiet_skip | ((go_big_quiet_want; (with_reducible refine Host.quiet_load (o := ⟨some 56, .load 4 (.tmp 55), _, _, _, _⟩) 4 (.tmp 55) ?_ _ ?_ _ QC.out ?_); (· rfl); (· rfl)); go_big_quiet_on; simp only [Act.put, List.setIfInBounds_toArray, List.set_cons_succ, List.set_cons_zero]))
            go_big_quiet_step ((intro _; rfl))
            go_big_quiet_step ((intro _; rfl))
            (first | go_big_quiet_skip | ((go_big_quiet_want; (with_reducible refine Host.quiet_load (o := ⟨some 59, .load 3 (.tmp 58), _, _, _, _⟩) 3 (.tmp 58) ?_ _ ?_ _ QN.out ?_); (· rfl); (· rfl)); go_big_quiet_on; simp only [Act.put, List.setIfInBounds_toArray, List.set_cons_succ, List.set_cons_zero]))
            go_big_quiet_step ((intro _; rfl))
            go_big_quiet_step ((intro _; rfl))
            go_big_quiet_step ((intro _; rfl))
            go_big_quiet_step ((intro _; rfl))
            go_big_quiet_step ((intro _; rfl))
            go_big_quiet_step ((intro _; rfl))
            go_big_quiet_step ((intro _; rfl))
            go_big_quiet_step ((intro _; rfl))
            repeat (go_big_quiet_step ((intro _; rfl)))
            refine wpQuiet_nil ?_
            intro X6 hB
            go_wp2
            go_ret
            exact ⟨rfl, HW2.out.trans (hB.mono HW2.out.size)⟩
          · obtain rfl : r = _ := HR.out
            obtain rfl : c = _ := HC.out
            simp only [Bool.not_true, Bool.not_false, Bool.true_or, Bool.false_or, Bool.or_true, Bool.or_false, Bool.true_and, Bool.false_and, Bool.and_true, Bool.and_false] at CR CK
            try go_wp2_with fail
            have QO := Lib.hid (fun u (hu : Below X5.heap.size X5 u) => (RQ2.out.later hu).org l0)
            have QU := Lib.hid (fun u (hu : Below X5.heap.size X5 u) => (RQ2.out.later hu).url l0)
            have QR := Lib.hid (fun u (hu : Below X5.heap.size X5 u) => (RQ2.out.later hu).load l0)
            have QV := Lib.hid (Url.q_url HG.out l0.u)
            have QC := Lib.hid (fun u (hu : Below X5.heap.size X5 u) => load4 (((RQ2.out.later hu).cell 43).trans (by rw [(Req.cR_at a0 v0 x0 l0).2.2.2.2.2.2.2.2.1, HK.out])))
            have QN := Lib.hid (fun u (hu : Below X5.heap.size X5 u) => load3 (((RQ2.out.later hu).cell 38).trans (by rw [(Req.cR_at a0 v0 x0 l0).2.2.2.1, HNN.out])))
            have QM := Lib.hid (fun u (hu : Below X5.heap.size X5 u) => MM.out.later (HW2.out.trans (hu.mono HW2.out.size)))
            have QP := Lib.hid (fun u (hu : Below X5.heap.size X5 u) => PP.out.later (HW2.out.trans (hu.mono HW2.out.size)))
            refine Ascii.wp_region_quiet_below (by kernel_rfl) (by kernel_rfl) ?_
            ((go_big_quiet_want; (with_reducible refine Host.quiet_load (o := ⟨some 43, .load 27 (.tmp 9), _, _, _, _⟩) 27 (.tmp 9) ?_ _ ?_ _ QV.out ?_); (· rfl); (· rfl)); go_big_quiet_on; simp only [Act.put, List.setIfInBounds_toArray, List.set_cons_succ, List.set_cons_zero])
            go_big_quiet_step ((intro hu; go_at_call 20; exact (CR.out _).mono fun e u' h => ⟨h.1, hu.trans (h.2.mono hu.size)⟩))
            go_big_quiet_step ((intro _; rfl))
            go_big_quiet_step ((intro _; rfl))
            go_big_quiet_step ((intro _; rfl))
            go_big_quiet_step ((intro _; rfl))
            go_big_quiet_step ((intro _; rfl))
            go_big_quiet_step ((intro _; rfl))
            go_big_quiet_step ((intro _; rfl))
            go_big_quiet_step ((intro _; rfl))
            (first | go_big_quiet_skip | ((go_big_quiet_want; (with_reducible refine Host.quiet_load (o := ⟨some 53, .load 32 (.tmp 3), _, _, _, _⟩) 32 (.tmp 3) ?_ _ ?_ _ QR.out ?_); (· rfl); (· rfl)); go_big_quiet_on; simp only [Act.put, List.setIfInBounds_toArray, List.set_cons_succ, List.set_cons_zero]))
            go_big_quiet_step ((intro hu; go_at_call 19; exact (CK.out _ (QM.out _ hu) (QP.out _ hu)).mono fun e u' h => ⟨h.1, hu.trans (h.2.mono hu.size)⟩))
            go_big_quiet_step ((intro _; rfl))
            (first | go_big_quiet_skip | ((go_big_quiet_want; (with_reducible refine Host.quiet_load (o := ⟨some 56, .load 4 (.tmp 55), _, _, _, _⟩) 4 (.tmp 55) ?_ _ ?_ _ QC.out ?_); (· rfl); (· rfl)); go_big_quiet_on; simp only [Act.put, List.setIfInBounds_toArray, List.set_cons_succ, List.set_cons_zero]))
            go_big_quiet_step ((intro _; rfl))
            go_big_quiet_step ((intro _; rfl))
            (first | go_big_quiet_skip | ((go_big_quiet_want; (with_reducible refine Host.quiet_load (o := ⟨some 59, .load 3 (.tmp 58), _, _, _, _⟩) 3 (.tmp 58) ?_ _ ?_ _ QN.out ?_); (· rfl); (· rfl)); go_big_quiet_on; simp only [Act.put, List.setIfInBounds_toArray, List.set_cons_succ, List.set_cons_zero]))
            go_big_quiet_step ((intro _; rfl))
            go_big_quiet_step ((intro _; rfl))
            go_big_quiet_step ((intro _; rfl))
            go_big_quiet_step ((intro _; rfl))
            go_big_quiet_step ((intro _; rfl))
            go_big_quiet_step ((intro _; rfl))
            go_big_quiet_step ((intro _; rfl))
            go_big_quiet_step ((intro _; rfl))
            repeat (go_big_quiet_step ((intro _; rfl)))
            refine wpQuiet_nil ?_
            intro X6 hB
            go_wp2
            go_ret
            exact ⟨rfl, HW2.out.trans (hB.mono HW2.out.size)⟩
      · obtain rfl : r = _ := HR.out
        obtain rfl : c = _ := HC.out
        simp only [Bool.not_true, Bool.not_false, Bool.true_or, Bool.false_or, Bool.or_true, Bool.or_false, Bool.true_and, Bool.false_and, Bool.and_true, Bool.and_false] at CR CK
        try go_wp2_with fail
        have QO := Lib.hid (fun u (hu : Below X5.heap.size X5 u) => (RQ2.out.later hu).org l0)
        have QU := Lib.hid (fun u (hu : Below X5.heap.size X5 u) => (RQ2.out.later hu).url l0)
        have QR := Lib.hid (fun u (hu : Below X5.heap.size X5 u) => (RQ2.out.later hu).load l0)
        have QV := Lib.hid (Url.q_url HG.out l0.u)
        have QC := Lib.hid (fun u (hu : Below X5.heap.size X5 u) => load4 (((RQ2.out.later hu).cell 43).trans (by rw [(Req.cR_at a0 v0 x0 l0).2.2.2.2.2.2.2.2.1, HK.out])))
        have QN := Lib.hid (fun u (hu : Below X5.heap.size X5 u) => load3 (((RQ2.out.later hu).cell 38).trans (by rw [(Req.cR_at a0 v0 x0 l0).2.2.2.1, HNN.out])))
        have QM := Lib.hid (fun u (hu : Below X5.heap.size X5 u) => MM.out.later (HW2.out.trans (hu.mono HW2.out.size)))
        have QP := Lib.hid (fun u (hu : Below X5.heap.size X5 u) => PP.out.later (HW2.out.trans (hu.mono HW2.out.size)))
        refine Ascii.wp_region_quiet_below (by kernel_rfl) (by kernel_rfl) ?_
        ((go_big_quiet_want; (with_reducible refine Host.quiet_load (o := ⟨some 43, .load 27 (.tmp 9), _, _, _, _⟩) 27 (.tmp 9) ?_ _ ?_ _ QV.out ?_); (· rfl); (· rfl)); go_big_quiet_on; simp only [Act.put, List.setIfInBounds_toArray, List.set_cons_succ, List.set_cons_zero])
        go_big_quiet_step ((intro hu; go_at_call 20; exact (CR.out _).mono fun e u' h => ⟨h.1, hu.trans (h.2.mono hu.size)⟩))
        go_big_quiet_step ((intro _; rfl))
        go_big_quiet_step ((intro _; rfl))
        go_big_quiet_step ((intro _; rfl))
        go_big_quiet_step ((intro _; rfl))
        go_big_quiet_step ((intro _; rfl))
        go_big_quiet_step ((intro _; rfl))
        go_big_quiet_step ((intro _; rfl))
        go_big_quiet_step ((intro _; rfl))
        (first | go_big_quiet_skip | ((go_big_quiet_want; (with_reducible refine Host.quiet_load (o := ⟨some 53, .load 32 (.tmp 3), _, _, _, _⟩) 32 (.tmp 3) ?_ _ ?_ _ QR.out ?_); (· rfl); (· rfl)); go_big_quiet_on; simp only [Act.put, List.setIfInBounds_toArray, List.set_cons_succ, List.set_cons_zero]))
        go_big_quiet_step ((intro hu; go_at_call 19; exact (CK.out _ (QM.out _ hu) (QP.out _ hu)).mono fun e u' h => ⟨h.1, hu.trans (h.2.mono hu.size)⟩))
        go_big_quiet_step ((intro _; rfl))
        (first | go_big_quiet_skip | ((go_big_quiet_want; (with_reducible refine Host.quiet_load (o := ⟨some 56, .load 4 (.tmp 55), _, _, _, _⟩) 4 (.tmp 55) ?_ _ ?_ _ QC.out ?_); (· rfl); (· rfl)); go_big_quiet_on; simp only [Act.put, List.setIfInBounds_toArray, List.set_cons_succ, List.set_cons_zero]))
        go_big_quiet_step ((intro _; rfl))
        go_big_quiet_step ((intro _; rfl))
        (first | go_big_quiet_skip | ((go_big_quiet_want; (with_reducible refine Host.quiet_load (o := ⟨some 59, .load 3 (.tmp 58), _, _, _, _⟩) 3 (.tmp 58) ?_ _ ?_ _ QN.out ?_); (· rfl); (· rfl)); go_big_quiet_on; simp only [Act.put, List.setIfInBounds_toArray, List.set_cons_succ, List.set_cons_zero]))
        go_big_quiet_step ((intro _; rfl))
        go_big_quiet_step ((intro _; rfl))
        go_big_quiet_step ((intro _; rfl))
        go_big_quiet_step ((intro _; rfl))
        go_big_quiet_step ((intro _; rfl))
        go_big_quiet_step ((intro _; rfl))
        go_big_quiet_step ((intro _; rfl))
        go_big_quiet_step ((intro _; rfl))
        repeat (go_big_quiet_step ((intro _; rfl)))
        refine wpQuiet_nil ?_
        intro X6 hB
        go_wp2
        go_ret
        exact ⟨rfl, HW2.out.trans (hB.mono HW2.out.size)⟩
    · cases k
      · cases d
        · obtain rfl : r = _ := HR.out
          obtain rfl : c = _ := HC.out
          simp only [Bool.not_true, Bool.not_false, Bool.true_or, Bool.false_or, Bool.or_true, Bool.or_false, Bool.true_and, Bool.false_and, Bool.and_true, Bool.and_false] at CR CK
          try go_wp2_with fail
          have QO := Lib.hid (fun u (hu : Below X5.heap.size X5 u) => (RQ2.out.later hu).org l0)
          have QU := Lib.hid (fun u (hu : Below X5.heap.size X5 u) => (RQ2.out.later hu).url l0)
          have QR := Lib.hid (fun u (hu : Below X5.heap.size X5 u) => (RQ2.out.later hu).load l0)
          have QV := Lib.hid (Url.q_url HG.out l0.u)
          have QC := Lib.hid (fun u (hu : Below X5.heap.size X5 u) => load4 (((RQ2.out.later hu).cell 43).trans (by rw [(Req.cR_at a0 v0 x0 l0).2.2.2.2.2.2.2.2.1, HK.out])))
          have QN := Lib.hid (fun u (hu : Below X5.heap.size X5 u) => load3 (((RQ2.out.later hu).cell 38).trans (by rw [(Req.cR_at a0 v0 x0 l0).2.2.2.1, HNN.out])))
          have QM := Lib.hid (fun u (hu : Below X5.heap.size X5 u) => MM.out.later (HW2.out.trans (hu.mono HW2.out.size)))
          have QP := Lib.hid (fun u (hu : Below X5.heap.size X5 u) => PP.out.later (HW2.out.trans (hu.mono HW2.out.size)))
          refine Ascii.wp_region_quiet_below (by kernel_rfl) (by kernel_rfl) ?_
          ((go_big_quiet_want; (with_reducible refine Host.quiet_load (o := ⟨some 43, .load 27 (.tmp 9), _, _, _, _⟩) 27 (.tmp 9) ?_ _ ?_ _ QV.out ?_); (· rfl); (· rfl)); go_big_quiet_on; simp only [Act.put, List.setIfInBounds_toArray, List.set_cons_succ, List.set_cons_zero])
          go_big_quiet_step ((intro hu; go_at_call 20; exact (CR.out _).mono fun e u' h => ⟨h.1, hu.trans (h.2.mono hu.size)⟩))
          go_big_quiet_step ((intro _; rfl))
          go_big_quiet_step ((intro _; rfl))
          go_big_quiet_step ((intro _; rfl))
          go_big_quiet_step ((intro _; rfl))
          go_big_quiet_step ((intro _; rfl))
          go_big_quiet_step ((intro _; rfl))
          go_big_quiet_step ((intro _; rfl))
          go_big_quiet_step ((intro _; rfl))
          (first | go_big_quiet_skip | ((go_big_quiet_want; (with_reducible refine Host.quiet_load (o := ⟨some 53, .load 32 (.tmp 3), _, _, _, _⟩) 32 (.tmp 3) ?_ _ ?_ _ QR.out ?_); (· rfl); (· rfl)); go_big_quiet_on; simp only [Act.put, List.setIfInBounds_toArray, List.set_cons_succ, List.set_cons_zero]))
          go_big_quiet_step ((intro hu; go_at_call 19; exact (CK.out _ (QM.out _ hu) (QP.out _ hu)).mono fun e u' h => ⟨h.1, hu.trans (h.2.mono hu.size)⟩))
          go_big_quiet_step ((intro _; rfl))
          (first | go_big_quiet_skip | ((go_big_quiet_want; (with_reducible refine Host.quiet_load (o := ⟨some 56, .load 4 (.tmp 55), _, _, _, _⟩) 4 (.tmp 55) ?_ _ ?_ _ QC.out ?_); (· rfl); (· rfl)); go_big_quiet_on; simp only [Act.put, List.setIfInBounds_toArray, List.set_cons_succ, List.set_cons_zero]))
          go_big_quiet_step ((intro _; rfl))
          go_big_quiet_step ((intro _; rfl))
          (first | go_big_quiet_skip | ((go_big_quiet_want; (with_reducible refine Host.quiet_load (o := ⟨some 59, .load 3 (.tmp 58), _, _, _, _⟩) 3 (.tmp 58) ?_ _ ?_ _ QN.out ?_); (· rfl); (· rfl)); go_big_quiet_on; simp only [Act.put, List.setIfInBounds_toArray, List.set_cons_succ, List.set_cons_zero]))
          go_big_quiet_step ((intro _; rfl))
          go_big_quiet_step ((intro _; rfl))
          go_big_quiet_step ((intro _; rfl))
          go_big_quiet_step ((intro _; rfl))
          go_big_quiet_step ((intro _; rfl))
          go_big_quiet_step ((intro _; rfl))
          go_big_quiet_step ((intro _; rfl))
          go_big_quiet_step ((intro _; rfl))
          repeat (go_big_quiet_step ((intro _; rfl)))
          refine wpQuiet_nil ?_
          intro X6 hB
          go_wp2
          go_ret
          exact ⟨rfl, HW2.out.trans (hB.mono HW2.out.size)⟩
        · cases z
          · obtain rfl : r = _ := HR.out
            obtain rfl : c = _ := HC.out
            simp only [Bool.not_true, Bool.not_false, Bool.true_or, Bool.false_or, Bool.or_true, Bool.or_false, Bool.true_and, Bool.false_and, Bool.and_true, Bool.and_false] at CR CK
            try go_wp2_with fail
            have QO := Lib.hid (fun u (hu : Below X5.heap.size X5 u) => (RQ2.out.later hu).org l0)
            have QU := Lib.hid (fun u (hu : Below X5.heap.size X5 u) => (RQ2.out.later hu).url l0)
            have QR := Lib.hid (fun u (hu : Below X5.heap.size X5 u) => (RQ2.out.later hu).load l0)
            have QV := Lib.hid (Url.q_url HG.out l0.u)
            have QC := Lib.hid (fun u (hu : Below X5.heap.size X5 u) => load4 (((RQ2.out.later hu).cell 43).trans (by rw [(Req.cR_at a0 v0 x0 l0).2.2.2.2.2.2.2.2.1, HK.out])))
            have QN := Lib.hid (fun u (hu : Below X5.heap.size X5 u) => load3 (((RQ2.out.later hu).cell 38).trans (by rw [(Req.cR_at a0 v0 x0 l0).2.2.2.1, HNN.out])))
            have QM := Lib.hid (fun u (hu : Below X5.heap.size X5 u) => MM.out.later (HW2.out.trans (hu.mono HW2.out.size)))
            have QP := Lib.hid (fun u (hu : Below X5.heap.size X5 u) => PP.out.later (HW2.out.trans (hu.mono HW2.out.size)))
            refine Ascii.wp_region_quiet_below (by kernel_rfl) (by kernel_rfl) ?_
            ((go_big_quiet_want; (with_reducible refine Host.quiet_load (o := ⟨some 43, .load 27 (.tmp 9), _, _, _, _⟩) 27 (.tmp 9) ?_ _ ?_ _ QV.out ?_); (· rfl); (· rfl)); go_big_quiet_on; simp only [Act.put, List.setIfInBounds_toArray, List.set_cons_succ, List.set_cons_zero])
            go_big_quiet_step ((intro hu; go_at_call 20; exact (CR.out _).mono fun e u' h => ⟨h.1, hu.trans (h.2.mono hu.size)⟩))
            go_big_quiet_step ((intro _; rfl))
            go_big_quiet_step ((intro _; rfl))
            go_big_quiet_step ((intro _; rfl))
            go_big_quiet_step ((intro _; rfl))
            go_big_quiet_step ((intro _; rfl))
            go_big_quiet_step ((intro _; rfl))
            go_big_quiet_step ((intro _; rfl))
            go_big_quiet_step ((intro _; rfl))
            (first | go_big_quiet_skip | ((go_big_quiet_want; (with_reducible refine Host.quiet_load (o := ⟨some 53, .load 32 (.tmp 3), _, _, _, _⟩) 32 (.tmp 3) ?_ _ ?_ _ QR.out ?_); (· rfl); (· rfl)); go_big_quiet_on; simp only [Act.put, List.setIfInBounds_toArray, List.set_cons_succ, List.set_cons_zero]))
            go_big_quiet_step ((intro hu; go_at_call 19; exact (CK.out _ (QM.out _ hu) (QP.out _ hu)).mono fun e u' h => ⟨h.1, hu.trans (h.2.mono hu.size)⟩))
            go_big_quiet_step ((intro _; rfl))
            (first | go_big_quiet_skip | ((go_big_quiet_want; (with_reducible refine Host.quiet_load (o := ⟨some 56, .load 4 (.tmp 55), _, _, _, _⟩) 4 (.tmp 55) ?_ _ ?_ _ QC.out ?_); (· rfl); (· rfl)); go_big_quiet_on; simp only [Act.put, List.setIfInBounds_toArray, List.set_cons_succ, List.set_cons_zero]))
            go_big_quiet_step ((intro _; rfl))
            go_big_quiet_step ((intro _; rfl))
            (first | go_big_quiet_skip | ((go_big_quiet_want; (with_reducible refine Host.quiet_load (o := ⟨some 59, .load 3 (.tmp 58), _, _, _, _⟩) 3 (.tmp 58) ?_ _ ?_ _ QN.out ?_); (· rfl); (· rfl)); go_big_quiet_on; simp only [Act.put, List.setIfInBounds_toArray, List.set_cons_succ, List.set_cons_zero]))
            go_big_quiet_step ((intro _; rfl))
            go_big_quiet_step ((intro _; rfl))
            go_big_quiet_step ((intro _; rfl))
            go_big_quiet_step ((intro _; rfl))
            go_big_quiet_step ((intro _; rfl))
            go_big_quiet_step ((intro _; rfl))
            go_big_quiet_step ((intro _; rfl))
            go_big_quiet_step ((intro _; rfl))
            repeat (go_big_quiet_step ((intro _; rfl)))
            refine wpQuiet_nil ?_
            intro X6 hB
            go_wp2
            go_ret
            exact ⟨rfl, HW2.out.trans (hB.mono HW2.out.size)⟩
          · obtain rfl : r = _ := HR.out
            obtain rfl : c = _ := HC.out
            simp only [Bool.not_true, Bool.not_false, Bool.true_or, Bool.false_or, Bool.or_true, Bool.or_false, Bool.true_and, Bool.false_and, Bool.and_true, Bool.and_false] at CR CK
            try go_wp2_with fail
            have QO := Lib.hid (fun u (hu : Below X5.heap.size X5 u) => (RQ2.out.later hu).org l0)
            have QU := Lib.hid (fun u (hu : Below X5.heap.size X5 u) => (RQ2.out.later hu).url l0)
            have QR := Lib.hid (fun u (hu : Below X5.heap.size X5 u) => (RQ2.out.later hu).load l0)
            have QV := Lib.hid (Url.q_url HG.out l0.u)
            have QC := Lib.hid (fun u (hu : Below X5.heap.size X5 u) => load4 (((RQ2.out.later hu).cell 43).trans (by rw [(Req.cR_at a0 v0 x0 l0).2.2.2.2.2.2.2.2.1, HK.out])))
            have QN := Lib.hid (fun u (hu : Below X5.heap.size X5 u) => load3 (((RQ2.out.later hu).cell 38).trans (by rw [(Req.cR_at a0 v0 x0 l0).2.2.2.1, HNN.out])))
            have QM := Lib.hid (fun u (hu : Below X5.heap.size X5 u) => MM.out.later (HW2.out.trans (hu.mono HW2.out.size)))
            have QP := Lib.hid (fun u (hu : Below X5.heap.size X5 u) => PP.out.later (HW2.out.trans (hu.mono HW2.out.size)))
            refine Ascii.wp_region_quiet_below (by kernel_rfl) (by kernel_rfl) ?_
            ((go_big_quiet_want; (with_reducible refine Host.quiet_load (o := ⟨some 43, .load 27 (.tmp 9), _, _, _, _⟩) 27 (.tmp 9) ?_ _ ?_ _ QV.out ?_); (· rfl); (· rfl)); go_big_quiet_on; simp only [Act.put, List.setIfInBounds_toArray, List.set_cons_succ, List.set_cons_zero])
            go_big_quiet_step ((intro hu; go_at_call 20; exact (CR.out _).mono fun e u' h => ⟨h.1, hu.trans (h.2.mono hu.size)⟩))
            go_big_quiet_step ((intro _; rfl))
            go_big_quiet_step ((intro _; rfl))
            go_big_quiet_step ((intro _; rfl))
            go_big_quiet_step ((intro _; rfl))
            go_big_quiet_step ((intro _; rfl))
            go_big_quiet_step ((intro _; rfl))
            go_big_quiet_step ((intro _; rfl))
            go_big_quiet_step ((intro _; rfl))
            (first | go_big_quiet_skip | ((go_big_quiet_want; (with_reducible refine Host.quiet_load (o := ⟨some 53, .load 32 (.tmp 3), _, _, _, _⟩) 32 (.tmp 3) ?_ _ ?_ _ QR.out ?_); (· rfl); (· rfl)); go_big_quiet_on; simp only [Act.put, List.setIfInBounds_toArray, List.set_cons_succ, List.set_cons_zero]))
            go_big_quiet_step ((intro hu; go_at_call 19; exact (CK.out _ (QM.out _ hu) (QP.out _ hu)).mono fun e u' h => ⟨h.1, hu.trans (h.2.mono hu.size)⟩))
            go_big_quiet_step ((intro _; rfl))
            (first | go_big_quiet_skip | ((go_big_quiet_want; (with_reducible refine Host.quiet_load (o := ⟨some 56, .load 4 (.tmp 55), _, _, _, _⟩) 4 (.tmp 55) ?_ _ ?_ _ QC.out ?_); (· rfl); (· rfl)); go_big_quiet_on; simp only [Act.put, List.setIfInBounds_toArray, List.set_cons_succ, List.set_cons_zero]))
            go_big_quiet_step ((intro _; rfl))
            go_big_quiet_step ((intro _; rfl))
            (first | go_big_quiet_skip | ((go_big_quiet_want; (with_reducible refine Host.quiet_load (o := ⟨some 59, .load 3 (.tmp 58), _, _, _, _⟩) 3 (.tmp 58) ?_ _ ?_ _ QN.out ?_); (· rfl); (· rfl)); go_big_quiet_on; simp only [Act.put, List.setIfInBounds_toArray, List.set_cons_succ, List.set_cons_zero]))
            go_big_quiet_step ((intro _; rfl))
            go_big_quiet_step ((intro _; rfl))
            go_big_quiet_step ((intro _; rfl))
            go_big_quiet_step ((intro _; rfl))
            go_big_quiet_step ((intro _; rfl))
            go_big_quiet_step ((intro _; rfl))
            go_big_quiet_step ((intro _; rfl))
            go_big_quiet_step ((intro _; rfl))
            repeat (go_big_quiet_step ((intro _; rfl)))
            refine wpQuiet_nil ?_
            intro X6 hB
            go_wp2
            go_ret
            exact ⟨rfl, HW2.out.trans (hB.mono HW2.out.size)⟩
      · obtain rfl : r = _ := HR.out
        obtain rfl : c = _ := HC.out
        simp only [Bool.not_true, Bool.not_false, Bool.true_or, Bool.false_or, Bool.or_true, Bool.or_false, Bool.true_and, Bool.false_and, Bool.and_true, Bool.and_false] at CR CK
        try go_wp2_with fail
        have QO := Lib.hid (fun u (hu : Below X5.heap.size X5 u) => (RQ2.out.later hu).org l0)
        have QU := Lib.hid (fun u (hu : Below X5.heap.size X5 u) => (RQ2.out.later hu).url l0)
        have QR := Lib.hid (fun u (hu : Below X5.heap.size X5 u) => (RQ2.out.later hu).load l0)
        have QV := Lib.hid (Url.q_url HG.out l0.u)
        have QC := Lib.hid (fun u (hu : Below X5.heap.size X5 u) => load4 (((RQ2.out.later hu).cell 43).trans (by rw [(Req.cR_at a0 v0 x0 l0).2.2.2.2.2.2.2.2.1, HK.out])))
        have QN := Lib.hid (fun u (hu : Below X5.heap.size X5 u) => load3 (((RQ2.out.later hu).cell 38).trans (by rw [(Req.cR_at a0 v0 x0 l0).2.2.2.1, HNN.out])))
        have QM := Lib.hid (fun u (hu : Below X5.heap.size X5 u) => MM.out.later (HW2.out.trans (hu.mono HW2.out.size)))
        have QP := Lib.hid (fun u (hu : Below X5.heap.size X5 u) => PP.out.later (HW2.out.trans (hu.mono HW2.out.size)))
        refine Ascii.wp_region_quiet_below (by kernel_rfl) (by kernel_rfl) ?_
        ((go_big_quiet_want; (with_reducible refine Host.quiet_load (o := ⟨some 43, .load 27 (.tmp 9), _, _, _, _⟩) 27 (.tmp 9) ?_ _ ?_ _ QV.out ?_); (· rfl); (· rfl)); go_big_quiet_on; simp only [Act.put, List.setIfInBounds_toArray, List.set_cons_succ, List.set_cons_zero])
        go_big_quiet_step ((intro hu; go_at_call 20; exact (CR.out _).mono fun e u' h => ⟨h.1, hu.trans (h.2.mono hu.size)⟩))
        go_big_quiet_step ((intro _; rfl))
        go_big_quiet_step ((intro _; rfl))
        go_big_quiet_step ((intro _; rfl))
        go_big_quiet_step ((intro _; rfl))
        go_big_quiet_step ((intro _; rfl))
        go_big_quiet_step ((intro _; rfl))
        go_big_quiet_step ((intro _; rfl))
        go_big_quiet_step ((intro _; rfl))
        (first | go_big_quiet_skip | ((go_big_quiet_want; (with_reducible refine Host.quiet_load (o := ⟨some 53, .load 32 (.tmp 3), _, _, _, _⟩) 32 (.tmp 3) ?_ _ ?_ _ QR.out ?_); (· rfl); (· rfl)); go_big_quiet_on; simp only [Act.put, List.setIfInBounds_toArray, List.set_cons_succ, List.set_cons_zero]))
        go_big_quiet_step ((intro hu; go_at_call 19; exact (CK.out _ (QM.out _ hu) (QP.out _ hu)).mono fun e u' h => ⟨h.1, hu.trans (h.2.mono hu.size)⟩))
        go_big_quiet_step ((intro _; rfl))
        (first | go_big_quiet_skip | ((go_big_quiet_want; (with_reducible refine Host.quiet_load (o := ⟨some 56, .load 4 (.tmp 55), _, _, _, _⟩) 4 (.tmp 55) ?_ _ ?_ _ QC.out ?_); (· rfl); (· rfl)); go_big_quiet_on; simp only [Act.put, List.setIfInBounds_toArray, List.set_cons_succ, List.set_cons_zero]))
        go_big_quiet_step ((intro _; rfl))
        go_big_quiet_step ((intro _; rfl))
        (first | go_big_quiet_skip | ((go_big_quiet_want; (with_reducible refine Host.quiet_load (o := ⟨some 59, .load 3 (.tmp 58), _, _, _, _⟩) 3 (.tmp 58) ?_ _ ?_ _ QN.out ?_); (· rfl); (· rfl)); go_big_quiet_on; simp only [Act.put, List.setIfInBounds_toArray, List.set_cons_succ, List.set_cons_zero]))
        go_big_quiet_step ((intro _; rfl))
        go_big_quiet_step ((intro _; rfl))
        go_big_quiet_step ((intro _; rfl))
        go_big_quiet_step ((intro _; rfl))
        go_big_quiet_step ((intro _; rfl))
        go_big_quiet_step ((intro _; rfl))
        go_big_quiet_step ((intro _; rfl))
        go_big_quiet_step ((intro _; rfl))
        repeat (go_big_quiet_step ((intro _; rfl)))
        refine wpQuiet_nil ?_
        intro X6 hB
        go_wp2
        go_ret
        exact ⟨rfl, HW2.out.trans (hB.mono HW2.out.size)⟩

/-! ### The row's step -/
theorem reads (os : Os) {H : Type} (enc : TypeId × Value → H) : (DataW.whole enc Tryz.prog ((Card.laidWorld os).forCall (fun _ _ => 0) ⟨#[], #[.agg (Req.cR Req.zeroR (.slice none 0 0) (.slice none 0 0)), .string ByteArray.empty, .string ByteArray.empty], []⟩).memory Tryz.f8.params.toList Rows.taintCredsSpec.vars false (#[.agg (Req.cR Req.zeroR (.slice none 0 0) (.slice none 0 0)), .string ByteArray.empty, .string ByteArray.empty] : Array Value).toList 8).map (fun x => (x.1, x.2.1)) = some ([.agg [.agg [.lit (.string []), .lit (.string []), .lit (.string []), .agg [.lit (.int .i64 0), .lit (.string []), .lit (.int .i64 0), .agg [.lit (.int .i64 0), .lit (.int .i64 0), .lit (.int .i64 0), .lit (.int .i64 0), .lit (.int .i64 0), .lit (.int .i64 0), .lit (.int .i64 0), .lit (.int .i64 0)]], .lit (.int .i64 0), .nil, .lit (.string []), .lit (.string []), .lit (.string []), .lit (.bool false), .lit (.bool false)], .lit (.string []), .nil, .lit (.bool false), .agg [.lit (.bool false), .lit (.string []), .agg [.lit (.int .i64 0), .lit (.string []), .lit (.int .i64 0), .agg [.lit (.int .i64 0), .lit (.int .i64 0), .lit (.int .i64 0), .lit (.int .i64 0), .lit (.int .i64 0), .lit (.int .i64 0), .lit (.int .i64 0), .lit (.int .i64 0)]], .lit (.int .i64 0)], .lit (.int .i64 0), .lit (.int .i64 0), .lit (.int .i64 0), .lit (.string []), .lit (.bool false), .lit (.bool false), .lit (.int .i64 0)], .lit (.string []), .lit (.string [])], []) := by kernel_rfl
set_option maxRecDepth 100000 in
theorem lifted (os : Os) (started : os.Started) (H : Type) (enc : TypeId × Value → H) (F : Stop.Interp) :
    ReturnsInHanded {} Tryz.checked os 8 .any ((OpenSpec.ofChange Rows.taintCredsSpec).preRow enc Tryz.prog Tryz.f8 Rows.taintCredsRow.domain false Rows.taintCredsRow.laid) (((OpenSpec.ofChange Rows.taintCredsSpec).at F).post enc Tryz.prog Tryz.f8 false true false false) := by
  obtain ⟨⟨x1, x2, x3⟩, hx, hx1⟩ := Option.map_eq_some_iff.1 (reads os enc)
  simp only [Prod.mk.injEq] at hx1
  obtain ⟨rfl, rfl⟩ := hx1
  refine returnsInHanded_of_row (C := Tryz.checked) (s := OpenSpec.ofChange Rows.taintCredsSpec) own started (by kernel_rfl) Tryz.func8
    (witness_row_at (enc := enc) (C := Tryz.checked) false (Card.laidWorld os) #[.agg (Req.cR Req.zeroR (.slice none 0 0) (.slice none 0 0)), .string ByteArray.empty, .string ByteArray.empty] rfl (by kernel_rfl) (by kernel_rfl) (by kernel_rfl)
      (OpenSpec.preRow_of_cond 8 hx (by kernel_rfl) (fun k hk => by cases hk) (by kernel_rfl) (Card.laid_met os _))) ?_
  intro W base args ds gs before hval0 hW _ _ _ hL hsh _
  obtain ⟨m, hmax⟩ := Card.maxLen_int hsh
  have hm : Six.At m W := ⟨hmax, fun _ => Six.tab_of hL⟩
  have hval : ∀ (j : Nat) t v, Tryz.f8.params[j]? = some t → args[j]? = some v → Value.okWide Tryz.prog W .any base t v := hval0
  have hW' := hW
  obtain ⟨p, q, hA0, hV, rfl, hfz, hnd⟩ := hW
  have hA : DataW.TrodAll enc Tryz.prog W 0 (fun _ => true) true Tryz.f8.params.toList args.toList ds p := hA0
  rw [Tryz.params8] at hA hval
  obtain ⟨v0, vs0, d0, ds0, p0, q0, hargs0, rfl, rfl, t0, r0⟩ := trodAll_cons hA
  obtain ⟨v1, vs1, d1, ds1, p1, q1, hargs1, rfl, rfl, t1, r1⟩ := trodAll_cons r0
  obtain ⟨v2, vs2, d2, ds2, p2, q2, hargs2, rfl, rfl, t2, r2⟩ := trodAll_cons r1
  obtain ⟨rfl, rfl, rfl⟩ := trodAll_nil r2
  obtain rfl : args = #[v0, v1, v2] := by cases args; simp_all
  obtain ⟨rfl, rfl⟩ := trodVars_none hV
  have k0 := t0
  have lt0 : ∀ x ∈ p0, x.block < W.heap.size := by obtain ⟨m, hm⟩ := k0; exact DataW.trod_lt m _ _ _ hm
  obtain ⟨a0, pv0, xv0, l0, rfl, z0, w0, y0⟩ := Req.open_req (hval 0 32 v0 rfl rfl) t0
  obtain ⟨a1, rfl, rfl, rfl, w1⟩ := open_string Tryz.underlying9 (hval 1 9 v1 rfl rfl) t1
  obtain ⟨a2, rfl, rfl, rfl, w2⟩ := open_string Tryz.underlying9 (hval 2 9 v2 rfl rfl) t2
  clear hA0 hval0
  simp only [List.append_nil] at hW'
  refine (walk a0 pv0 xv0 l0 a1 a2 w1 w2 m W hm z0 w0 y0).mono fun e W' ⟨he, bel⟩ => ?_
  subst he
  exact ⟨_, rfl, _, _, _, [], _, [], hW', trodAll_mk1 (shut_bool Tryz.underlying4 _), (trodAll_cons_mk (Below.trod laidOut (by kernel_rfl) (of_decide_eq_true (by kernel_rfl)) k0 bel lt0) (trodAll_cons_mk (shut_string Tryz.underlying9 w1) (trodAll_cons_mk (shut_string Tryz.underlying9 w2) trodAll_mk0))), rfl, bel.frame _, fun h => by cases h⟩

theorem said : Rows.taintCredsRow.holds Tryz.pinned (OpenSpec.ofChange Rows.taintCredsSpec) :=
  OpenClaim.holds_of_cond 8 Tryz.f8 rfl rfl rfl rfl rfl rfl rfl ⟨rfl, rfl, rfl, rfl, rfl⟩ rfl rfl rfl rfl rfl (by kernel_rfl) Tryz.func8 (by kernel_rfl)
    (of_decide_eq_true (by kernel_rfl)) (by unfold Func.isWrapper; first | (rw [if_pos (by decide +kernel)]; kernel_rfl) | (rw [if_neg (by decide +kernel)]; exact ⟨rfl, rfl⟩))
    (fun os started H enc _ F => by rw [OpenClaim.pre_eq_preRow]; exact lifted os started H enc F)

/-- No parameter wants a stand-in; the program's own looks are on. -/
theorem plain (f : FuncId) (fn : Func) (hf : Tryz.pinned.checked.prog.funcNamed Rows.taintCredsRow.func = some f) (hfn : Tryz.pinned.checked.prog.funcs[f]? = some fn) :
    true = Tryz.pinned.checked.prog.looks [] ∧ ∀ (j : Nat) t, fn.params[j]? = some t → Tryz.pinned.checked.prog.wantsStandIn t = false := by
  obtain rfl : f = 8 := Option.some.inj ((show Tryz.prog.funcNamed Rows.taintCredsRow.func = some 8 by kernel_rfl).symm.trans hf) |>.symm
  obtain rfl : fn = Tryz.f8 := (Option.some.inj (Tryz.func8.symm.trans hfn)).symm
  refine ⟨by kernel_rfl, fun j t ht => ?_⟩
  rw [Tryz.params8] at ht
  obtain rfl | rfl : t = 32 ∨ t = 9 := by simpa using Array.mem_of_getElem? ht
  · exact (show Tryz.prog.wantsStandIn 32 = false by kernel_rfl)
  · exact (show Tryz.prog.wantsStandIn 9 = false by kernel_rfl)

/-- The statement: the card. -/
theorem proved : Rows.TaintCredsCardSaid :=
  Claim7.holds_tied_plain_at .later [] _ _ _ _ said (fun _ h => by cases h) (by kernel_rfl) (fun _ h => by cases h) taintCreds_row_tie rfl ⟨rfl, rfl⟩ (by kernel_rfl) rfl plain (by kernel_rfl)
#print axioms proved
end Go.Proofs.YtlkikfdbjpjpaaaGreatDoor.taintCreds
